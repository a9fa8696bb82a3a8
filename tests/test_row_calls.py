"""The calls 16 to 22: age, shorten, fix, unfix, join, leave, flush."""

import unittest

from helper import (
    CLOCK_END, EVERYBODY, FIRST_RESERVED, GREATEST, GROUP, LAST_OF_NO_GROUP, LAST_RESERVED, LEAST, NO_SIDES, NO_VLANS,
    Case, frame, out)


def look(hw, *answer, v=1):
    """A step: what look answers for the number behind its 0."""
    return ("look", v, hw), [0, *answer]


def gone(hw, v=1):
    return ("look", v, hw), [-3]


def learned(port, source, to=99):
    """A step: a frame that is spread over the two other ports."""
    return frame(port, to, source), out(*[other for other in range(3) if other != port])


class AgeCall(Case):

    def test_edges(self):
        self.takes([("age", 1, 1), ("age", 1, 1000000)])
        self.refuses(-1, [("age", v, 5) for v in NO_VLANS])
        self.refuses(-2, [("age", 1, a) for a in (-1, 0, 1000001, LEAST, GREATEST)])
        self.refuses(-1, [("age", 2, 0)])

    def test_it_is_for_what_is_learned_or_heard_again(self):
        self.tells(
            learned(0, 5), ("age", 1, 40), look(5, 0, 0, 300),
            learned(0, 6), look(6, 0, 0, 40), look(5, 0, 0, 300),
            learned(0, 5), look(5, 0, 0, 40))

    def test_it_is_for_what_moves(self):
        self.tells(learned(0, 5), ("age", 1, 400), learned(1, 5), look(5, 0, 1, 400))

    def test_it_is_the_vlans_alone(self):
        self.tells(
            ("vlan", 7), ("age", 7, 40), ("vlan", 8), (("vcounts", 7), [0, 0, 0, 0, 0, 40]),
            (("vcounts", 1), [0, 0, 0, 0, 0, 300]), (("vcounts", 8), [0, 0, 0, 0, 0, 300]),
            learned(0, 5), look(5, 0, 0, 300))

    def test_a_refusal_leaves_it(self):
        self.tells((("age", 1, 0), [-2]), (("vcounts", 1), [0, 0, 0, 0, 0, 300]))


class ShortenCall(Case):

    def test_edges(self):
        self.takes([("shorten", 1, 0), ("shorten", 1, 1000000)])
        self.refuses(-1, [("shorten", v, 5) for v in NO_VLANS])
        self.refuses(-2, [("shorten", 1, d) for d in (-1, 1000001, LEAST, GREATEST)])
        self.refuses(-1, [("shorten", 2, -1)])

    def test_what_stays_longer_is_shortened_and_nothing_else(self):
        self.tells(
            learned(0, 5), ("tick", 200), learned(1, 6), ("shorten", 1, 100), look(5, 0, 0, 100), look(6, 0, 1, 100),
            ("shorten", 1, 101), look(6, 0, 1, 100), ("shorten", 1, 99), look(6, 0, 1, 99),
            ("tick", 98), look(6, 0, 1, 1), ("tick", 1), gone(5), gone(6))

    def test_a_row_that_is_over_goes_at_once(self):
        self.tells(learned(0, 5), ("shorten", 1, 0), gone(5), (("rows", 1), [0, 0, 0]))
        self.tells(learned(0, 5), ("shorten", 1, 1), look(5, 0, 0, 1))

    def test_fixed_and_secure_and_group_rows_stay(self):
        self.tells(
            ("lock", 1, 1, 0), learned(1, 6), ("fix", 1, 7, 0), ("join", 1, GROUP, 0), learned(0, 5),
            ("shorten", 1, 0), (("rows", 1), [0, 2, 6, 1, 1, 7, 2, 0, 1, GROUP, 1, 0]))

    def test_the_other_vlans_rows_stay(self):
        self.tells(("vlan", 7), ("native", 2, 7), (frame(2, 9, 6), out()), learned_by_two(0, 5),
                   ("shorten", 7, 0), gone(6, v=7), look(5, 0, 0, 300))

    def test_the_age_and_the_hold_stay(self):
        self.tells(
            learned(0, 5), learned(1, 5), ("shorten", 1, 10), (frame(0, 9, 5), [-12]), look(5, 0, 1, 10),
            learned(1, 5), look(5, 0, 1, 300), (("vcounts", 1), [0, 1, 1, 0, 0, 300]))


def learned_by_two(port, source):
    """A step: a frame of VLAN 1 while port 2 is of another."""
    return frame(port, 99, source), out(1 - port)


class FixCall(Case):

    def test_edges(self):
        self.takes([("fix", 1, hw, 0) for hw in (1, GROUP - 1, 2 * GROUP, LAST_OF_NO_GROUP)])
        self.takes([("fix", 1, 5, side) for side in (-1, 0, 2)])
        self.refuses(-1, [("fix", v, 5, 0) for v in NO_VLANS])
        wrong = (-1, 0, GROUP, 2 * GROUP - 1, 3 * GROUP, EVERYBODY, EVERYBODY - 1, 2 ** 48, 2 ** 48 + 5,
                 -2 * GROUP, FIRST_RESERVED, LEAST, GREATEST)
        self.refuses(-2, [("fix", 1, hw, 0) for hw in wrong])
        self.refuses(-3, [("fix", 1, 5, side) for side in (-2, 3, 64, LEAST, GREATEST)])

    def test_order(self):
        self.refuses(-1, [("fix", 2, 0, 3)])
        self.refuses(-2, [("fix", 1, 0, 3)])
        self.tells(("fix", 1, 5, 0), (("fix", 1, 6, 2), [-3]), start=("begin", 2, 1, 300, 0))

    def test_in_place_of_any_row(self):
        self.tells(
            ("fix", 1, 5, 0), look(5, 2, 0, 0), ("fix", 1, 5, 2), look(5, 2, 2, 0), ("fix", 1, 5, -1),
            look(5, 2, -1, 0), (("vcounts", 1), [0, 1, 0, 0, 0, 300]))
        self.tells(learned(0, 5), ("fix", 1, 5, 1), look(5, 2, 1, 0), ("tick", 1000), look(5, 2, 1, 0))
        self.tells(("lock", 0, 1, 0), learned(0, 5), ("fix", 1, 5, 0), look(5, 2, 0, 0),
                   learned(0, 6), look(6, 1, 0, 0))

    def test_at_the_cap(self):
        self.tells(
            ("fix", 1, 5, 0), ("join", 1, GROUP, 0), (("fix", 1, 6, 0), [-4]), gone(6), ("fix", 1, 5, 1),
            look(5, 2, 1, 0), ("vlan", 7), ("fix", 7, 6, 0), ("unfix", 1, 5), ("fix", 1, 6, -1),
            start=("begin", 2, 2, 300, 0))
        self.tells((frame(0, 9, 5), out(1)), (("fix", 1, 6, 0), [-4]), ("fix", 1, 5, 1), look(5, 2, 1, 0),
                   start=("begin", 2, 1, 300, 0))

    def test_a_side_may_be_in_no_such_vlan_and_have_no_live_port(self):
        self.tells(("native", 1, 0), ("unplug", 2), ("fix", 1, 5, 1), ("fix", 1, 6, 2), look(5, 2, 1, 0),
                   look(6, 2, 2, 0))


class UnfixCall(Case):

    def test_taken_away(self):
        self.tells(("fix", 1, 5, 0), ("unfix", 1, 5), gone(5), (("unfix", 1, 5), [-2]))
        self.tells(("fix", 1, 5, -1), ("fix", 1, 6, 1), ("unfix", 1, 5), gone(5), look(6, 2, 1, 0))

    def test_refusals(self):
        self.refuses(-1, [("unfix", v, 5) for v in NO_VLANS], ("fix", 1, 5, 0))
        self.refuses(-2, [("unfix", 1, hw) for hw in (0, 6, GROUP, LEAST, GREATEST)], ("fix", 1, 5, 0))
        self.refuses(-2, [("unfix", 7, 5)], ("vlan", 7), ("fix", 1, 5, 0))
        self.refuses(-2, [("unfix", 1, GROUP)], ("join", 1, GROUP, 0))

    def test_a_row_that_is_not_fixed(self):
        self.tells(learned(0, 5), (("unfix", 1, 5), [-2]), look(5, 0, 0, 300))
        self.tells(("lock", 0, 1, 0), learned(0, 5), (("unfix", 1, 5), [-2]), look(5, 1, 0, 0))


class JoinCall(Case):

    def test_edges(self):
        right = (GROUP, 2 * GROUP - 1, 3 * GROUP, FIRST_RESERVED - 1, LAST_RESERVED + 1, EVERYBODY - 1)
        self.takes([("join", 1, g, 0) for g in right])
        self.takes([("join", 1, GROUP, side) for side in (0, 2)])
        self.refuses(-1, [("join", v, GROUP, 0) for v in NO_VLANS])
        wrong = (0, 5, GROUP - 1, 2 * GROUP, LAST_OF_NO_GROUP, EVERYBODY, 2 ** 48 + GROUP, -GROUP, -1,
                 *range(FIRST_RESERVED, LAST_RESERVED + 1), LEAST, GREATEST)
        self.refuses(-2, [("join", 1, g, 0) for g in wrong])
        self.refuses(-3, [("join", 1, GROUP, side) for side in NO_SIDES])

    def test_order(self):
        self.refuses(-1, [("join", 2, 0, 3)])
        self.refuses(-2, [("join", 1, 0, 3)])
        self.tells(("fix", 1, 5, 0), (("join", 1, GROUP, 2), [-3]), start=("begin", 2, 1, 300, 0))

    def test_sides_are_added(self):
        self.tells(
            ("join", 1, GROUP, 2), look(GROUP, 3, 1, 2), ("join", 1, GROUP, 0), look(GROUP, 3, 2, 0, 2),
            ("join", 1, GROUP, 0), look(GROUP, 3, 2, 0, 2), (("vcounts", 1), [0, 1, 0, 0, 0, 300]))

    def test_at_the_cap(self):
        self.tells(
            ("fix", 1, 5, 0), ("join", 1, GROUP, 0), (("join", 1, GROUP + 1, 0), [-4]), gone(GROUP + 1),
            ("join", 1, GROUP, 1), look(GROUP, 3, 2, 0, 1), ("join", 1, GROUP, 1), ("vlan", 7),
            ("join", 7, GROUP + 1, 0), ("unfix", 1, 5), ("join", 1, GROUP + 1, 0), start=("begin", 2, 2, 300, 0))

    def test_a_row_is_of_one_vlan(self):
        self.tells(("vlan", 7), ("join", 7, GROUP, 1), gone(GROUP), look(GROUP, 3, 1, 1, v=7))


class LeaveCall(Case):

    def test_sides_are_taken_till_the_row_goes(self):
        self.tells(
            ("join", 1, GROUP, 0), ("join", 1, GROUP, 2), ("leave", 1, GROUP, 0), look(GROUP, 3, 1, 2),
            (("leave", 1, GROUP, 0), [-2]), ("leave", 1, GROUP, 2), gone(GROUP), (("leave", 1, GROUP, 2), [-2]),
            (("vcounts", 1), [0, 0, 0, 0, 0, 300]), (("rows", 1), [0, 0, 0]))

    def test_refusals(self):
        joined = ("join", 1, GROUP, 1)
        self.refuses(-1, [("leave", v, GROUP, 1) for v in NO_VLANS], joined)
        self.refuses(-2, [("leave", 1, g, 1) for g in (0, 5, GROUP + 1, EVERYBODY, LEAST, GREATEST)], joined)
        self.refuses(-2, [("leave", 1, GROUP, side) for side in (0, 2) + NO_SIDES], joined)
        self.refuses(-2, [("leave", 7, GROUP, 1)], ("vlan", 7), joined)
        self.refuses(-2, [("leave", 1, 5, 1)], ("fix", 1, 5, 1))

    def test_a_row_without_sides_makes_room(self):
        self.tells(("join", 1, GROUP, 0), ("leave", 1, GROUP, 0), ("fix", 1, 5, 0), start=("begin", 2, 1, 300, 0))


class FlushCall(Case):

    def filled(self):
        """Rows of the VLANs 1 and 7: 5 and 8 learned at side 0 and 1, 6 secure at side 2, 9 fixed at side 0."""
        both = [("vlan", 7), ("lock", 2, 4, 0)]
        for side in range(3):
            both.append(("pair", side, 70, 7))
        for tag in (-1, 70):
            for port, source in ((0, 5), (1, 8), (2, 6)):
                both.append((frame(port, 99, source, tag), self.spread(port, tag)))
        for v in (1, 7):
            both.extend([("fix", v, 9, 0), ("fix", v, 10, -1), ("join", v, GROUP, 0)])
        return both

    def spread(self, port, tag):
        return out(*[(other, tag, 0) for other in range(3) if other != port])

    def left(self, v, *rows):
        told = [number for row in sorted(rows + ((9, 2, 0), (10, 2, -1))) for number in row]
        return ("rows", v), [0, len(rows) + 2, *told, 1, GROUP, 1, 0]

    def test_refusals(self):
        self.refuses(-1, [("flush", v, 0) for v in NO_VLANS if v != 0])
        self.refuses(-2, [("flush", v, side) for v in (0, 1) for side in (-2, 3, 64, LEAST, GREATEST)])
        self.refuses(-1, [("flush", 2, 3)])

    def test_nothing_to_forget(self):
        self.takes([("flush", v, side) for v in (0, 1) for side in (-1, 0, 2)])

    def test_one_vlan_at_one_side(self):
        five, eight, six = (5, 0, 0), (8, 0, 1), (6, 1, 2)
        self.tells(
            *self.filled(), (("flush", 1, 0), [1]), self.left(1, eight, six), self.left(7, five, eight, six),
            (("flush", 7, 2), [1]), self.left(7, five, eight), self.left(1, eight, six), ("flush", 1, 0))

    def test_every_vlan_or_every_side(self):
        five, eight, six = (5, 0, 0), (8, 0, 1), (6, 1, 2)
        self.tells(*self.filled(), (("flush", 0, 1), [2]), self.left(1, five, six), self.left(7, five, six))
        self.tells(*self.filled(), (("flush", 7, -1), [3]), self.left(7), self.left(1, five, eight, six))
        self.tells(*self.filled(), (("flush", 0, -1), [6]), self.left(1), self.left(7), ("flush", 0, -1))

    def test_a_secure_row_that_is_forgotten_makes_room(self):
        self.tells(("lock", 0, 1, 0), learned(0, 5), (frame(0, 99, 6), [-13]), (("flush", 1, 0), [1]), learned(0, 6))


class RowsNearTheClocksEnd(Case):

    def test_a_time_until_which_it_stays_may_be_later(self):
        self.tells(
            ("tick", CLOCK_END), learned(0, 5), look(5, 0, 0, 300), ("age", 1, 1000000), learned(0, 5),
            look(5, 0, 0, 1000000), ("shorten", 1, 7), look(5, 0, 0, 7), (("tick", 1), [-2]), look(5, 0, 0, 7))

    def test_so_may_one_before_which_it_does_not_move(self):
        self.tells(
            learned(0, 5), ("tick", 299), ("tick", CLOCK_END - 300), learned(0, 5), learned(1, 5), ("tick", 1),
            (frame(0, 99, 5), [-12]), look(5, 0, 1, 299))


if __name__ == "__main__":
    unittest.main()
