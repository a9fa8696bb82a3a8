"""The calls 27 to 31: look, rows, counts, vcounts, side."""

import unittest

from helper import (
    EVERYBODY, FIRST_RESERVED, GREATEST, GROUP, LAST_OF_NO_GROUP, LEAST, NO_SIDES, NO_VLANS, Case, counted, frame, out)


class LookCall(Case):

    def test_refusals(self):
        self.refuses(-1, [("look", v, 5) for v in NO_VLANS], ("fix", 1, 5, 0))
        self.refuses(-2, [("look", 1, hw) for hw in (-1, EVERYBODY + 1, LEAST, GREATEST)])
        nothing = (0, 1, LAST_OF_NO_GROUP, GROUP, EVERYBODY, FIRST_RESERVED)
        self.refuses(-3, [("look", 1, hw) for hw in nothing], ("fix", 1, 5, 0), ("join", 1, GROUP + 1, 0))
        self.refuses(-1, [("look", 2, -1)])

    def test_each_kind(self):
        self.tells(
            ("lock", 1, 1, 0), (frame(0, 9, 5), out(1, 2)), (frame(1, 9, 6), out(0, 2)), ("fix", 1, 7, 2),
            ("fix", 1, LAST_OF_NO_GROUP, -1), ("tick", 100),
            (("look", 1, 5), [0, 0, 0, 200]), (("look", 1, 6), [0, 1, 1, 0]), (("look", 1, 7), [0, 2, 2, 0]),
            (("look", 1, LAST_OF_NO_GROUP), [0, 2, -1, 0]))

    def test_a_group(self):
        self.tells(
            ("join", 1, EVERYBODY - 1, 2), ("join", 1, EVERYBODY - 1, 1), (("look", 1, EVERYBODY - 1), [0, 3, 2, 1, 2]),
            ("join", 1, EVERYBODY - 1, 0), (("look", 1, EVERYBODY - 1), [0, 3, 3, 0, 1, 2]))

    def test_each_vlan_has_its_own(self):
        self.tells(("vlan", 7), ("fix", 7, 5, 2), ("fix", 1, 5, 1), (("look", 7, 5), [0, 2, 2, 0]),
                   (("look", 1, 5), [0, 2, 1, 0]), ("unfix", 7, 5), (("look", 7, 5), [-3]))


class RowsCall(Case):

    def test_answers(self):
        self.refuses(-1, [("rows", v) for v in NO_VLANS])
        self.tells((("rows", 1), [0, 0, 0]), ("vlan", 7), (("rows", 7), [0, 0, 0]))

    def test_rising_whatever_came_first(self):
        self.tells(
            ("lock", 1, 3, 0), ("fix", 1, 2 * GROUP, -1), (frame(1, 9, 8), out(0, 2)), (frame(0, 9, 5), out(1, 2)),
            ("fix", 1, 7, 2), ("join", 1, 3 * GROUP, 2), ("join", 1, GROUP, 2), ("join", 1, GROUP, 0),
            (("rows", 1), [0, 4, 5, 0, 0, 7, 2, 2, 8, 1, 1, 2 * GROUP, 2, -1, 2, GROUP, 2, 0, 2, 3 * GROUP, 1, 2]),
            ("vlan", 7), (("rows", 7), [0, 0, 0]))

    def test_group_rows_alone(self):
        self.tells(("join", 1, GROUP, 1), (("rows", 1), [0, 0, 1, GROUP, 1, 1]))


class CountsCall(Case):

    def test_answers(self):
        self.refuses(-1, [("counts", port) for port in NO_SIDES])
        self.tells((("counts", 0), counted()), (("counts", 2), counted()))

    def test_taken_passed_and_given(self):
        self.tells(
            (frame(0, 9, 5), out(1, 2)), (frame(1, 5, 6), out(0)), (frame(1, 6, 6), out()),
            (("counts", 0), counted(1, 1, 1)), (("counts", 1), counted(2, 2, 1)), (("counts", 2), counted(0, 0, 1)))

    def test_refused_frames_are_not_counted(self):
        self.tells((frame(0, -1, 5), [-2]), (frame(3, 9, 5), [-1]), (("counts", 0), counted()))

    def test_asking_changes_nothing(self):
        self.tells((frame(0, 9, 5), out(1, 2)), (("counts", 1), counted(0, 0, 1)), (frame(0, 9, 5), out(1, 2)),
                   (("counts", 1), counted(0, 0, 2)), (("counts", 1), counted(0, 0, 2)))

    def test_begin_sets_them_back(self):
        self.tells((frame(0, 9, 5), out(1, 2)), ("begin", 3, 4, 300, 0), *[
            (("counts", port), counted()) for port in range(3)])


class VcountsCall(Case):

    def test_answers(self):
        self.refuses(-1, [("vcounts", v) for v in NO_VLANS])
        self.tells((("vcounts", 1), [0, 0, 0, 0, 0, 300]), ("vlan", 7), ("age", 7, 9),
                   (("vcounts", 7), [0, 0, 0, 0, 0, 9]))

    def test_the_size_counts_rows_and_group_rows(self):
        self.tells(
            (frame(0, 9, 5), out(1, 2)), ("fix", 1, 6, -1), ("fix", 1, 7, 1), ("join", 1, GROUP, 0),
            ("join", 1, GROUP, 1), ("vlan", 7), (("vcounts", 1), [0, 4, 0, 0, 0, 300]),
            (("vcounts", 7), [0, 0, 0, 0, 0, 300]))

    def test_each_count_is_its_vlans(self):
        self.tells(
            ("vlan", 7), ("pair", 0, 70, 7), ("pair", 1, 70, 7), ("age", 7, 50), ("lock", 2, 1, 0),
            (frame(0, 9, 5, 70), out((1, 70, 0))), (frame(1, 9, 5, 70), out((0, 70, 0))),
            (frame(0, 9, 6, 70), out((1, 70, 0))), (frame(0, 9, 7, 70), out((1, 70, 0))),
            (frame(0, 9, 8, 70), out((1, 70, 0))),
            (frame(2, 9, 5), out(0, 1)), (frame(2, 9, 6), [-13]), (frame(2, 9, 7), [-13]), (frame(2, 9, 8), [-13]),
            (("vcounts", 7), [0, 2, 1, 2, 0, 50]), (("vcounts", 1), [0, 1, 0, 0, 3, 300]),
            start=("begin", 3, 2, 300, 0))


class SideCall(Case):

    def test_answers(self):
        self.refuses(-1, [("side", side) for side in NO_SIDES])
        for side in range(3):
            self.tells((("side", side), [0, 1, 0, 0, 0, 0, -1, 0, 0, 1, side]))

    def test_all_that_is_set(self):
        self.tells(
            ("vlan", 4094), ("vlan", 7), ("pair", 1, 4094, 7), ("pair", 1, 3, 4094), ("native", 1, 0), ("apart", 1, 1),
            ("rank", 1, 7), ("lock", 1, 65536, 1), ("storm", 1, 1000000000), ("watch", 1, 3), ("plug", 2, 1),
            ("plug", 0, 1),
            (("side", 1), [0, 0, 1, 7, 65536, 1, 1000000000, 3, 2, 3, 4094, 4094, 7, 3, 0, 1, 2]),
            (("side", 0), [0, 1, 0, 0, 0, 0, -1, 0, 0, 0]))

    def test_a_lock_that_does_not_shut_and_none(self):
        self.tells(
            ("lock", 1, 4, 0), (("side", 1), [0, 1, 0, 0, 4, 0, -1, 0, 0, 1, 1]),
            ("lock", 1, 5, 1), (("side", 1), [0, 1, 0, 0, 5, 1, -1, 0, 0, 1, 1]),
            ("unlock", 1), (("side", 1), [0, 1, 0, 0, 0, 0, -1, 0, 0, 1, 1]))

    def test_ports_that_are_down_are_told_too(self):
        self.tells(("link", 1, 0), ("plug", 2, 1), (("side", 1), [0, 1, 0, 0, 0, 0, -1, 0, 0, 2, 1, 2]),
                   ("unplug", 1), (("side", 1), [0, 1, 0, 0, 0, 0, -1, 0, 0, 1, 2]))

    def test_a_storm_bound_of_0_is_one(self):
        self.tells(("storm", 1, 0), (("side", 1), [0, 1, 0, 0, 0, 0, 0, 0, 0, 1, 1]),
                   ("storm", 1, -1), (("side", 1), [0, 1, 0, 0, 0, 0, -1, 0, 0, 1, 1]))


if __name__ == "__main__":
    unittest.main()
