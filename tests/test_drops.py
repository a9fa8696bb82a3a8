"""The call 26 where a frame is refused or dropped: the reasons, their order, what is changed."""

import unittest

from helper import (
    EVERYBODY, FIRST_RESERVED, GREATEST, GROUP, LAST_OF_NO_GROUP, LAST_RESERVED, LEAST, NO_SIDES, Case, ask, counted,
    frame, out)

FOUR = ("begin", 4, 100, 300, 20)
TO = 77
SOURCE = 5

# By reason: what is called so that the frame from SOURCE at port 0 is dropped for it.
CAUSES = {
    3: [("link", 0, 0)],
    4: [("mirror", 0)],
    5: [],
    6: [("native", 0, 0)],
    7: [],
    8: [("gate", 0, 1, 0)],
    9: [("lock", 0, 1, 1), frame(0, TO, 101), frame(0, TO, 102)],
    10: [("fix", 1, SOURCE, 1)],
    11: [("lock", 1, 1, 0), frame(1, TO, SOURCE)],
    12: [frame(1, TO, SOURCE), frame(2, TO, SOURCE)],
    13: [("lock", 0, 1, 0), frame(0, TO, 103)],
    14: [("gate", 0, 1, 1)],
    15: [("fix", 1, TO, -1)],
    16: [("storm", 0, 0)],
}
# Two that are both told of one row, or one gate, or of where the frame is for.
APART = [(5, 10), (5, 11), (5, 12), (7, 15), (8, 14), (10, 11), (10, 12), (11, 12)]


def the_frame(reasons):
    return frame(0, FIRST_RESERVED if 7 in reasons else TO, 0 if 5 in reasons else SOURCE)


def causes_of(reasons):
    """The later reasons' first: what an earlier one stops must be made before."""
    return [call for reason in sorted(reasons, reverse=True) for call in CAUSES[reason]]


def seen(*calls):
    """All that can be asked of VLAN 1 and of the ports and sides behind the calls."""
    asked = [("rows", 1), ("vcounts", 1)] + [(name, number) for number in range(4) for name in ("counts", "side")]
    told = ask(FOUR, *calls, *asked)[-len(asked):]
    return dict(zip(asked, told))


class Refusals(Case):

    def test_no_port(self):
        self.refuses(-1, [frame(port, 9, 5) for port in NO_SIDES])
        self.refuses(-1, [frame(3, -1, -1, -2, -1)])

    def test_edges_that_are_taken(self):
        self.tells((frame(0, 0, 1), out(1, 2)), (frame(0, EVERYBODY, LAST_OF_NO_GROUP), out(1, 2)),
                   (frame(0, 9, 5, 0, 0), out(1, 2)), (frame(0, 9, 5, 0, 7), out(1, 2)), (frame(0, 9, 0), [-5]),
                   (frame(0, 9, EVERYBODY), [-5]), (frame(0, 9, 5, 4095, 7), [-6]), (frame(0, 9, 5, 1, 0), [-6]))

    def test_wrong_numbers(self):
        for hw in (-1, EVERYBODY + 1, LEAST, GREATEST):
            self.refuses(-2, [frame(0, hw, 5), frame(0, 9, hw), frame(0, hw, hw)])
        self.refuses(-2, [frame(0, 9, 5, tag) for tag in (-2, 4096, LEAST, GREATEST)])
        self.refuses(-2, [frame(0, 9, 5, tag, rank) for tag in (0, 1, 4095) for rank in (-1, 8, LEAST, GREATEST)])
        self.refuses(-2, [frame(0, 9, 5, -1, rank) for rank in (-1, 1, 7, 8, LEAST, GREATEST)])

    def test_before_every_reason(self):
        self.refuses(-2, [frame(0, -1, 5), frame(0, 9, 5, -1, 1)], ("link", 0, 0))

    def test_nothing_is_counted_or_learned(self):
        for call in (frame(4, TO, 6), frame(0, -1, 6), frame(0, TO, 6, -1, 1), frame(0, TO, 6, 4096)):
            self.assertEqual(seen(frame(1, TO, 8), call), seen(frame(1, TO, 8)), call)


class Reasons(Case):

    def dropped(self, reason, call, *before, start=FOUR):
        self.assertEqual(ask(start, *before, call)[-1], [-reason], (before, call))

    def passes(self, call, *before):
        told = ask(FOUR, *before, call)[-1]
        self.assertEqual(told[0], 0, (before, call))

    def test_each_by_itself(self):
        for reason in CAUSES:
            self.dropped(reason, the_frame([reason]), *causes_of([reason]))

    def test_without_a_cause_it_passes(self):
        self.passes(the_frame([]))

    def test_the_first_of_two_counts(self):
        for first in CAUSES:
            for second in range(first + 1, 17):
                if (first, second) not in APART:
                    both = [first, second]
                    self.dropped(first, the_frame(both), *causes_of(both))

    def test_3_down_or_no_sides(self):
        self.dropped(3, frame(0, TO, 5), ("unplug", 0))
        self.dropped(3, frame(0, TO, 5), ("unplug", 0), ("link", 0, 0))
        self.dropped(3, frame(0, TO, 5), ("unplug", 0), ("mirror", -1))
        self.dropped(3, frame(0, TO, 5), ("link", 0, 0), ("plug", 1, 0))
        self.passes(frame(1, TO, 5), ("link", 0, 0), ("plug", 1, 0))
        self.passes(frame(0, TO, 5), ("link", 0, 0), ("link", 0, 1))
        self.passes(frame(0, TO, 5), ("unplug", 0), ("plug", 0, 2))

    def test_4_the_side_counts_not_the_port(self):
        self.dropped(4, frame(1, TO, 5), ("plug", 1, 0), ("mirror", 0))
        self.passes(frame(0, TO, 5), ("plug", 0, 1), ("mirror", 0))

    def test_5_edges(self):
        for source in (0, GROUP, 2 * GROUP - 1, 3 * GROUP, FIRST_RESERVED, EVERYBODY - 1, EVERYBODY):
            self.dropped(5, frame(0, TO, source))
        for source in (1, GROUP - 1, 2 * GROUP, 3 * GROUP - 1, LAST_OF_NO_GROUP):
            self.passes(frame(0, TO, source))

    def test_6_which_vlan(self):
        two = [("vlan", 7), ("pair", 0, 9, 7)]
        self.passes(frame(0, TO, 5, 9), *two)
        self.passes(frame(0, TO, 5, 0), *two)
        self.dropped(6, frame(0, TO, 5, 7), *two)
        self.dropped(6, frame(0, TO, 5, 1), *two)
        self.dropped(6, frame(1, TO, 5, 9), *two)
        self.dropped(6, frame(0, TO, 5, 4095), *two)
        self.dropped(6, frame(0, TO, 5, 9), *two, ("unpair", 0, 9))
        for tag in (-1, 0):
            self.dropped(6, frame(0, TO, 5, tag), *two, ("native", 0, 0))
        self.passes(frame(0, TO, 5, 9), *two, ("native", 0, 0))

    def test_7_edges(self):
        for to in range(FIRST_RESERVED, LAST_RESERVED + 1):
            self.dropped(7, frame(0, to, 5))
        for to in (FIRST_RESERVED - 1, LAST_RESERVED + 1, FIRST_RESERVED - GROUP, EVERYBODY, 0):
            self.passes(frame(0, to, 5))

    def test_8_9_and_14_are_of_a_side_and_a_vlan(self):
        two = [("vlan", 7), ("pair", 0, 9, 7), ("pair", 1, 9, 7)]
        for reason in (8, 9, 14):
            self.dropped(reason, frame(0, TO, 5), *two, *CAUSES[reason])
            self.passes(frame(0, TO, 5, 9), *two, *CAUSES[reason])
            self.passes(frame(1, TO, 6), *two, *CAUSES[reason])

    def test_9_without_the_lock_that_shut_it(self):
        self.dropped(9, frame(0, TO, 5), *CAUSES[9], ("unlock", 0))
        self.dropped(9, frame(0, TO, 101), *CAUSES[9])
        self.passes(frame(0, TO, 101), *CAUSES[9], ("unshut", 0, 1))

    def test_10_at_this_side_it_goes_on(self):
        self.dropped(10, frame(0, TO, 5), ("fix", 1, 5, -1))
        self.dropped(10, frame(0, TO, 5), ("fix", 1, 5, 3))
        self.passes(frame(0, TO, 5), ("fix", 1, 5, 0))
        self.passes(frame(0, TO, 5), ("vlan", 7), ("fix", 7, 5, 1))

    def test_10_and_11_and_12_before_a_breach(self):
        full = [("lock", 0, 1, 1), frame(0, TO, 103)]
        for reason in (10, 11, 12):
            before = [*CAUSES[reason], *full]
            self.dropped(reason, frame(0, TO, 5), *before)
            told = ask(FOUR, *before, frame(0, TO, 5), ("vcounts", 1), ("unshut", 0, 1))[-2:]
            self.assertEqual(told, [[0, 2, 1 if reason == 12 else 0, 0, 0, 300], [-2]])

    def test_15_for_nowhere(self):
        self.dropped(15, frame(0, TO, 5), ("fix", 1, TO, -1), ("storm", 0, 0))
        self.passes(frame(0, TO, 5), ("fix", 1, TO, 0))
        self.passes(frame(0, TO, 5), ("vlan", 7), ("fix", 7, TO, -1))
        self.dropped(10, frame(0, 5, 5), ("fix", 1, 5, -1))

    def test_15_a_row_for_a_group_is_never_for_nowhere(self):
        self.tells(("join", 1, GROUP, 0), (frame(0, GROUP, 5), out()), ("leave", 1, GROUP, 0),
                   (frame(0, GROUP, 5), out(1, 2)))


class Storm(Case):

    def test_so_many_are_spread_and_no_more(self):
        self.tells(("storm", 0, 2), (frame(0, 9, 5), out(1, 2)), (frame(0, EVERYBODY, 6), out(1, 2)),
                   (frame(0, 9, 7), [-16]), (frame(0, GROUP, 5), [-16]), (frame(1, 9, 8), out(0, 2)))

    def test_what_has_a_row_is_not_spread(self):
        self.tells(
            ("storm", 0, 0), ("fix", 1, 9, 1), ("join", 1, GROUP, 2), (frame(0, 9, 5), out(1)),
            (frame(0, GROUP, 5), out(2)), (frame(0, 5, 5), out()), (frame(0, 10, 5), [-16]), (frame(0, 0, 5), [-16]),
            (frame(0, GROUP + 1, 5), [-16]), (frame(0, EVERYBODY, 5), [-16]))

    def test_frames_by_a_row_are_not_counted(self):
        self.tells(("storm", 0, 1), ("fix", 1, 9, 1), (frame(0, 9, 5), out(1)), (frame(0, 9, 5), out(1)),
                   (frame(0, 8, 5), out(1, 2)), (frame(0, 8, 5), [-16]))

    def test_it_counts_without_a_bound_too(self):
        self.tells((frame(0, 9, 5), out(1, 2)), (frame(0, 9, 5), out(1, 2)), ("storm", 0, 2), (frame(0, 9, 5), [-16]),
                   ("storm", 0, 3), (frame(0, 9, 5), out(1, 2)), (frame(0, 9, 5), [-16]), ("storm", 0, -1),
                   (frame(0, 9, 5), out(1, 2)))

    def test_a_dropped_frame_is_not_counted(self):
        self.tells(("storm", 0, 1), (frame(0, 9, 5), out(1, 2)), (frame(0, 9, 5), [-16]), (frame(0, 9, 5), [-16]),
                   ("storm", 0, 2), (frame(0, 9, 5), out(1, 2)), (frame(0, 9, 5), [-16]))
        self.tells(("storm", 0, 1), ("gate", 0, 1, 1), (frame(0, 9, 5), [-14]), ("gate", 0, 1, 2),
                   (frame(0, FIRST_RESERVED, 5), [-7]), (frame(0, 9, 5), out(1, 2)), (frame(0, 9, 5), [-16]))

    def test_a_frame_that_goes_out_nowhere_is_counted(self):
        self.tells(("storm", 0, 1), ("native", 1, 0), ("native", 2, 0), (frame(0, 9, 5), out()),
                   (frame(0, 9, 5), [-16]))

    def test_each_side_and_vlan_by_itself(self):
        self.tells(
            ("vlan", 7), ("pair", 0, 9, 7), ("pair", 1, 9, 7), ("storm", 0, 1), (frame(0, 9, 5), out(1, 2)),
            (frame(0, 9, 5, 9), out((1, 9, 0))), (frame(0, 9, 5, 9), [-16]), (frame(0, 9, 5), [-16]),
            ("storm", 1, 1), (frame(1, 9, 6), out(0, 2)), (frame(1, 9, 6), [-16]))

    def test_all_ports_of_a_side_count_together(self):
        self.tells(("plug", 1, 0), ("storm", 0, 1), (frame(0, 9, 5), out(2)), (frame(1, 9, 5), [-16]))


class WhatADroppedFrameChanges(unittest.TestCase):

    def changes(self, reason):
        """The answers that are others behind the frame, by call."""
        before = causes_of([reason])
        first = seen(*before)
        behind = seen(*before, the_frame([reason]))
        self.assertEqual(first[("counts", 0)][0], 0)
        return {call: (first[call], behind[call]) for call in first if first[call] != behind[call]}

    def test_its_port_counts_it(self):
        for reason in CAUSES:
            first, behind = self.changes(reason).pop(("counts", 0))
            first[1] += 1
            first[reason + 1] += 1
            self.assertEqual(behind, first, reason)

    def test_nothing_else_before_and_in_learning(self):
        for reason in range(3, 13):
            self.assertEqual(list(self.changes(reason)), [("counts", 0)], reason)

    def test_a_breach_is_counted(self):
        found = self.changes(13)
        self.assertEqual(sorted(found), [("counts", 0), ("vcounts", 1)])
        self.assertEqual(found[("vcounts", 1)], ([0, 1, 0, 0, 0, 300], [0, 1, 0, 0, 1, 300]))

    def test_what_was_learned_stays(self):
        for reason, rows in ((14, [0, 1, 5, 0, 0, 0]), (15, [0, 2, 5, 0, 0, 77, 2, -1, 0]), (16, [0, 1, 5, 0, 0, 0])):
            found = self.changes(reason)
            self.assertEqual(sorted(found), [("counts", 0), ("rows", 1), ("vcounts", 1)], reason)
            self.assertEqual(found[("rows", 1)][1], rows, reason)

    def test_what_moved_or_was_missed_stays(self):
        for cause in (("gate", 0, 1, 1), ("fix", 1, TO, -1), ("storm", 0, 0)):
            told = ask(FOUR, frame(1, TO, 5), cause, frame(0, TO, 5), ("look", 1, 5), ("vcounts", 1))[-2:]
            self.assertEqual(told[0], [0, 0, 0, 300], cause)
            self.assertEqual(told[1][2:], [1, 0, 0, 300], cause)
            told = ask(("begin", 4, 1, 300, 0), ("fix", 1, TO, -1), cause, frame(0, TO, 5), ("vcounts", 1))[-1]
            self.assertEqual(told, [0, 1, 0, 1, 0, 300], cause)

    def test_each_frame_is_counted_at_its_port(self):
        told = ask(FOUR, ("unplug", 0), *[frame(0, TO, 5)] * 3, frame(1, TO, 0), *[("counts", n) for n in range(4)])
        self.assertEqual(told[-4:], [counted(3, r3=3), counted(1, r5=1), counted(), counted()])


class Shuts(Case):

    def test_a_breach_shuts_where_the_lock_says_so(self):
        self.tells(
            ("lock", 0, 1, 1), (frame(0, 9, 5), out(1, 2)), (frame(0, 9, 6), [-13]), (frame(0, 9, 5), [-9]),
            (frame(1, 5, 7), out()), (frame(1, 8, 7), out(2)), ("unshut", 0, 1), (frame(0, 9, 5), out(1, 2)),
            (("vcounts", 1), [0, 2, 0, 0, 1, 300]), (("counts", 0), counted(4, 2, 0, r9=1, r13=1)))

    def test_it_does_not_where_the_lock_does_not(self):
        self.tells(
            ("lock", 0, 1, 0), (frame(0, 9, 5), out(1, 2)), (frame(0, 9, 6), [-13]), (frame(0, 9, 7), [-13]),
            (frame(0, 9, 5), out(1, 2)), (("unshut", 0, 1), [-2]), (("vcounts", 1), [0, 1, 0, 0, 2, 300]))

    def test_a_breach_shuts_that_side_and_vlan_alone(self):
        self.tells(
            ("vlan", 7), ("pair", 0, 70, 7), ("pair", 1, 70, 7), ("lock", 0, 1, 1), ("lock", 1, 1, 1),
            (frame(0, 9, 5), out(1, 2)), (frame(0, 9, 6), [-13]), (frame(0, 9, 6, 70), out((1, 70, 0))),
            (frame(1, 9, 7), out(2)), (("unshut", 0, 7), [-2]), (("unshut", 1, 1), [-2]), ("unshut", 0, 1))


if __name__ == "__main__":
    unittest.main()
