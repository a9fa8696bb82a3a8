"""Where a frame is for, where it goes out, by which port, with what tag and rank, and the copies."""

import unittest

from helper import EVERYBODY, GROUP, LAST_OF_NO_GROUP, Case, counted, frame, out

FOUR = ("begin", 4, 100, 300, 0)
# A breach at side 2 shuts it for VLAN 1.
SHUT_2 = [("lock", 2, 1, 1), (frame(2, 0, 201), out(0, 1, 3)), (frame(2, 0, 202), [-13])]


class WhereItIsFor(Case):

    def tells(self, *steps, start=FOUR):
        super().tells(*steps, start=start)

    def test_all_sides_without_a_row(self):
        for to in (0, 9, LAST_OF_NO_GROUP, GROUP, EVERYBODY - 1, EVERYBODY):
            self.tells((frame(0, to, 5), out(1, 2, 3)))
        self.tells((frame(2, 9, 5), out(0, 1, 3)))

    def test_a_learned_secure_or_fixed_rows_side(self):
        self.tells(
            ("lock", 2, 1, 0), ("fix", 1, 7, 3), (frame(1, 9, 5), out(0, 2, 3)), (frame(2, 9, 6), out(0, 1, 3)),
            (frame(0, 5, 8), out(1)), (frame(0, 6, 8), out(2)), (frame(0, 7, 8), out(3)))

    def test_nowhere(self):
        self.tells(("fix", 1, 7, -1), (frame(0, 7, 8), [-15]), ("unfix", 1, 7), (frame(0, 7, 8), out(1, 2, 3)))

    def test_a_group_rows_sides(self):
        self.tells(
            ("join", 1, GROUP, 3), ("join", 1, GROUP, 1), (frame(0, GROUP, 8), out(1, 3)), (frame(1, GROUP, 7), out(3)),
            (frame(0, GROUP + 1, 8), out(1, 2, 3)), ("leave", 1, GROUP, 1), (frame(0, GROUP, 8), out(3)),
            ("leave", 1, GROUP, 3), (frame(0, GROUP, 8), out(1, 2, 3)))

    def test_rows_of_another_vlan_say_nothing(self):
        self.tells(("vlan", 7), ("fix", 7, 9, 1), ("join", 7, GROUP, 1), (frame(0, 9, 5), out(1, 2, 3)),
                   (frame(0, GROUP, 5), out(1, 2, 3)))

    def test_where_it_should_be_it_goes_out_nowhere(self):
        self.tells((frame(0, 9, 5), out(1, 2, 3)), (frame(0, 5, 6), out()), ("fix", 1, 7, 0), (frame(0, 7, 5), out()),
                   (("counts", 0), counted(3, 3)))


class WhereItGoesOut(Case):
    """Each condition stands for side 2, by itself; the frame comes in at side 0."""

    def keeps_off(self, *before):
        """Nothing goes out at side 2: not if it's spread, not by a row, not by a group row."""
        rows = [("fix", 1, 9, 2), ("join", 1, GROUP, 2), ("join", 1, GROUP, 3)]
        self.tells(*rows, *before, (frame(0, 0, 5), out(1, 3)), (frame(0, 9, 5), out()), (frame(0, GROUP, 5), out(3)),
                   (("counts", 2), self.given_before(before)), start=FOUR)

    def given_before(self, before):
        return counted(2, 1, 0, r13=1) if before == tuple(SHUT_2) else counted()

    def goes(self, *before):
        self.tells(("fix", 1, 9, 2), *before, (frame(0, 0, 5), out(1, 2, 3)), (frame(0, 9, 5), out(2)), start=FOUR)

    def test_with_nothing_set(self):
        self.goes()

    def test_in_the_vlan(self):
        self.keeps_off(("native", 2, 0))
        self.keeps_off(("vlan", 7), ("native", 2, 7))
        self.keeps_off(("vlan", 7), ("native", 2, 0), ("pair", 2, 1, 7))

    def test_the_gate(self):
        self.keeps_off(("gate", 2, 1, 0))
        self.keeps_off(("gate", 2, 1, 1))
        self.goes(("gate", 2, 1, 0), ("gate", 2, 1, 2))
        self.goes(("vlan", 7), ("gate", 2, 7, 0))

    def test_shut(self):
        self.keeps_off(*SHUT_2)
        self.goes(*SHUT_2, ("unshut", 2, 1))

    def test_apart(self):
        self.keeps_off(("apart", 0, 1), ("apart", 2, 1))
        self.goes(("apart", 0, 1))
        self.goes(("apart", 2, 1))
        self.goes(("apart", 0, 1), ("apart", 2, 1), ("apart", 2, 0))
        self.goes(("apart", 0, 1), ("apart", 2, 1), ("apart", 0, 0))

    def test_apart_from_one_another_alone(self):
        apart = [("apart", 1, 1), ("apart", 2, 1)]
        self.tells(*apart, (frame(1, 0, 5), out(0, 3)), (frame(2, 0, 6), out(0, 3)), (frame(0, 0, 7), out(1, 2, 3)),
                   (frame(2, 5, 6), out()), start=FOUR)

    def test_the_mirror(self):
        self.keeps_off(("mirror", 2))
        self.goes(("mirror", 2), ("mirror", -1))

    def test_a_live_port(self):
        self.keeps_off(("link", 2, 0))
        self.keeps_off(("unplug", 2))
        self.goes(("link", 2, 0), ("link", 2, 1))
        self.tells(("plug", 3, 2), ("link", 2, 0), (frame(0, 0, 5), out(1, 3)), start=FOUR)

    def test_a_gate_of_the_side_it_came_by(self):
        self.tells(("gate", 0, 1, 1), (frame(1, 0, 5), out(2, 3)), start=FOUR)

    def test_a_locked_side_and_a_storm_bound_keep_nothing_off(self):
        self.goes(("lock", 2, 1, 1), ("storm", 2, 0))


class WhichPort(Case):

    def test_the_place_among_live_ports(self):
        side = [("plug", 3, 1), ("plug", 4, 1), ("fix", 1, 10, 1), ("fix", 1, 11, 1), ("fix", 1, 12, 1)]
        at = {0: 1, 1: 3, 2: 4}
        for to in (10, 11, 12):
            for source in (20, 21, 22):
                self.tells(*side, (frame(0, to, source), out(at[(to + source) % 3])), start=("begin", 5, 9, 9, 0))

    def test_ports_that_are_down_have_no_place(self):
        side = [("plug", 3, 1), ("plug", 4, 1), ("link", 3, 0), ("fix", 1, 10, 1)]
        self.tells(*side, (frame(0, 10, 20), out(1)), (frame(0, 10, 21), out(4)), (frame(0, 10, 22), out(1)),
                   ("link", 3, 1), (frame(0, 10, 21), out(3)), start=("begin", 5, 9, 9, 0))

    def test_rising_order_whatever_was_plugged_first(self):
        side = [("plug", 4, 1), ("plug", 0, 1), ("fix", 1, 10, 1)]
        self.tells(*side, (frame(2, 10, 20), out(0)), (frame(2, 10, 21), out(1)), (frame(2, 10, 22), out(4)),
                   start=("begin", 5, 9, 9, 0))

    def test_great_numbers(self):
        side = [("plug", 3, 1), ("plug", 4, 1)]
        for to in (EVERYBODY, EVERYBODY - 1, EVERYBODY - 2):
            place = (to + LAST_OF_NO_GROUP) % 3
            self.tells(*side, (frame(0, to, LAST_OF_NO_GROUP), out(*sorted([2, (1, 3, 4)[place]]))),
                       start=("begin", 5, 9, 9, 0))

    def test_eight_ports(self):
        eight = [("plug", port, 1) for port in range(2, 9)]
        self.tells(*eight, *[(frame(0, 0, source), out(1 + source % 8)) for source in range(1, 20)],
                   start=("begin", 9, 50, 9, 0))

    def test_the_answer_is_by_port_not_by_side(self):
        self.tells(("plug", 3, 1), ("unplug", 1), (frame(0, 0, 5), out(2, 3)), ("plug", 1, 3),
                   (frame(0, 0, 5), out(1, 2, 3)), start=FOUR)

    def test_a_side_gives_at_one_port_alone(self):
        self.tells(("plug", 3, 1), ("plug", 2, 1), (frame(0, 0, 6), out(1)), (frame(0, 0, 7), out(2)),
                   (frame(2, 6, 8), out(0)), (("counts", 1), counted(0, 0, 1)), (("counts", 2), counted(1, 1, 1)),
                   (("counts", 3), counted()), start=FOUR)


class TagsAndRanks(Case):

    def trunk(self):
        """Side 1 is in VLAN 1 by tag 9, side 2 by tag 10, side 3 natively."""
        return [("native", 1, 0), ("pair", 1, 9, 1), ("native", 2, 0), ("pair", 2, 10, 1)]

    def test_the_rank_of_the_side_for_a_frame_without_a_tag(self):
        self.tells(*self.trunk(), ("rank", 0, 6), ("rank", 1, 2), (frame(0, 0, 5), out((1, 9, 6), (2, 10, 6), 3)),
                   start=FOUR)

    def test_a_tag_of_0_brings_its_own_rank(self):
        self.tells(*self.trunk(), ("rank", 0, 6), (frame(0, 0, 5, 0, 0), out((1, 9, 0), (2, 10, 0), 3)),
                   (frame(0, 0, 5, 0, 7), out((1, 9, 7), (2, 10, 7), 3)), start=FOUR)

    def test_a_tag_brings_its_own_rank(self):
        self.tells(*self.trunk(), ("rank", 1, 6), (frame(1, 0, 5, 9, 3), out(0, (2, 10, 3), 3)),
                   (frame(1, 0, 5, 9, 0), out(0, (2, 10, 0), 3)), start=FOUR)

    def test_the_tag_is_the_vlans(self):
        self.tells(
            ("vlan", 7), ("pair", 0, 100, 7), ("pair", 1, 4094, 7), ("pair", 2, 1, 7), ("pair", 3, 7, 7),
            ("vlan", 8), ("pair", 1, 5, 8), ("pair", 0, 8, 8),
            (frame(0, 0, 5, 100, 4), out((1, 4094, 4), (2, 1, 4), (3, 7, 4))), (frame(0, 0, 5, 8, 1), out((1, 5, 1))),
            (frame(1, 5, 6, 4094, 2), out((0, 100, 2))), start=FOUR)

    def test_into_and_out_of_a_native_vlan(self):
        self.tells(
            ("vlan", 7), ("native", 0, 7), ("pair", 1, 70, 7), ("native", 3, 7), ("rank", 0, 1),
            (frame(0, 0, 5), out((1, 70, 1), 3)), (frame(1, 0, 6, 70, 5), out(0, 3)), (frame(1, 0, 6), out(2)),
            start=FOUR)


class Copies(Case):

    def tells(self, *steps, start=FOUR):
        super().tells(*steps, start=start)

    def test_what_comes_in(self):
        for d, copies in ((0, 0), (1, 1), (2, 0), (3, 1)):
            self.tells(("mirror", 3), ("watch", 0, d),
                       (frame(0, 0, 5), out(1, 2, copies=copies, by=3 if copies else -1)))

    def test_what_goes_out(self):
        for d, copies in ((0, 0), (1, 0), (2, 1), (3, 1)):
            self.tells(("mirror", 3), ("watch", 1, d),
                       (frame(0, 0, 5), out(1, 2, copies=copies, by=3 if copies else -1)))

    def test_one_for_each(self):
        self.tells(
            ("mirror", 3), ("watch", 0, 3), ("watch", 1, 3), ("watch", 2, 2),
            (frame(0, 0, 5), out(1, 2, copies=3, by=3)),
            (frame(1, 5, 6), out(0, copies=2, by=3)), (frame(2, 5, 7), out(0, copies=1, by=3)))

    def test_one_that_goes_out_nowhere_is_watched_coming_in(self):
        self.tells(("mirror", 3), ("watch", 0, 3), (frame(0, 5, 5), out(copies=1, by=3)))

    def test_sides_at_which_it_does_not_go_out_give_none(self):
        self.tells(("mirror", 3), ("watch", 2, 2), ("fix", 1, 9, 1), (frame(0, 9, 5), out(1)), ("link", 2, 0),
                   (frame(0, 0, 5), out(1)))

    def test_a_watched_mirror_adds_nothing(self):
        self.tells(("mirror", 3), ("watch", 3, 3), (frame(0, 0, 5), out(1, 2)))

    def test_a_dropped_frame_has_none(self):
        self.tells(("mirror", 3), ("watch", 0, 3), ("storm", 0, 0), (frame(0, 0, 5), [-16]))

    def test_no_mirror(self):
        self.tells(("watch", 0, 3), ("watch", 1, 3), (frame(0, 0, 5), out(1, 2, 3)))
        self.tells(("watch", 0, 3), ("unplug", 3), (frame(0, 0, 5), out(1, 2)))
        self.tells(("watch", 0, 3), ("mirror", 3), ("mirror", -1), (frame(0, 0, 5), out(1, 2, 3)))

    def test_a_mirror_without_a_live_port(self):
        self.tells(("watch", 0, 3), ("mirror", 3), ("link", 3, 0), (frame(0, 0, 5), out(1, 2)), ("link", 3, 1),
                   (frame(0, 0, 5), out(1, 2, copies=1, by=3)), ("unplug", 3), (frame(0, 0, 5), out(1, 2)))

    def test_the_mirrors_port_by_the_same_places(self):
        mirror = [("watch", 0, 1), ("mirror", 3), ("plug", 4, 3), ("plug", 1, 3)]
        at = {0: 1, 1: 3, 2: 4}
        self.tells(*mirror, *[(frame(0, to, 5), out(2, copies=1, by=at[(to + 5) % 3])) for to in (6, 7, 8, EVERYBODY)],
                   ("link", 3, 0), (frame(0, 6, 5), out(2, copies=1, by=4)), (frame(0, 7, 5), out(2, copies=1, by=1)),
                   start=("begin", 5, 9, 9, 0))

    def test_the_mirror_may_be_in_no_vlan_and_be_shut_off(self):
        self.tells(("watch", 0, 1), ("mirror", 3), ("native", 3, 0), ("gate", 3, 1, 0), ("apart", 0, 1),
                   ("apart", 3, 1), (frame(0, 0, 5), out(1, 2, copies=1, by=3)))

    def test_copies_are_not_counted(self):
        self.tells(("mirror", 3), ("watch", 0, 1), ("watch", 1, 2), (frame(0, 0, 5), out(1, 2, copies=2, by=3)),
                   (("counts", 3), counted()), (("counts", 0), counted(1, 1)), (("counts", 1), counted(0, 0, 1)))


if __name__ == "__main__":
    unittest.main()
