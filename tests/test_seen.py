"""What the calls 0 to 15 do to all that is held, seen through frames and the calls that tell."""

import unittest

from helper import CLOCK_END, GROUP, START, Case, ask, counted, frame, out

TO = 99


def learned(port, source):
    return frame(port, TO, source), out(*[other for other in range(3) if other != port])


def learned_by_tag(port, source):
    return frame(port, TO, source, 70), out(*[(other, 70, 0) for other in range(3) if other != port])


def filled():
    """Steps that give the VLANs 1 and 7 (by tag 70 at each side) the same rows.

    5, 6, 8 are learned at side 0, 1, 2; 9 is fixed at side 0, 10 nowhere, 11 at side 1;
    a group's sides are 0 and 1.
    """
    steps = [("vlan", 7)] + [("pair", side, 70, 7) for side in range(3)]
    for port, source in ((0, 5), (1, 6), (2, 8)):
        steps += [learned(port, source), learned_by_tag(port, source)]
    for v in (1, 7):
        steps += [("fix", v, 9, 0), ("fix", v, 10, -1), ("fix", v, 11, 1), ("join", v, GROUP, 1), ("join", v, GROUP, 0)]
    return steps


def left(v, *sources):
    """A step: the rows that the VLAN has yet; these of the learned ones, and all others."""
    side = {5: 0, 6: 1, 8: 2}
    rows = [(hw, 0, side[hw]) for hw in sources] + [(9, 2, 0), (10, 2, -1), (11, 2, 1)]
    told = [number for row in sorted(rows) for number in row]
    return ("rows", v), [0, len(rows), *told, 1, GROUP, 2, 0, 1]


class BeginCall(Case):

    def test_all_is_new(self):
        self.tells(
            *filled(), ("mirror", 2), ("watch", 0, 3), ("gate", 0, 1, 1), ("tick", 1), ("apart", 0, 1), ("rank", 0, 5),
            ("storm", 0, 0), ("lock", 0, 1, 1), ("unplug", 0), ("link", 1, 0), ("begin", 3, 9, 40, 0),
            (("rows", 1), [0, 0, 0]), (("rows", 7), [-1]), (("vcounts", 1), [0, 0, 0, 0, 0, 40]),
            *[(("side", side), [0, 1, 0, 0, 0, 0, -1, 0, 0, 1, side]) for side in range(3)],
            *[(("counts", port), counted()) for port in range(3)],
            learned(0, 5), (("look", 1, 5), [0, 0, 0, 40]), learned(1, 6), learned(2, 8), ("tick", CLOCK_END))

    def test_a_refused_one_leaves_all(self):
        self.tells(*filled(), (("begin", 0, 9, 40, 0), [-1]), left(1, 5, 6, 8), left(7, 5, 6, 8),
                   (("counts", 0), counted(2, 2, 4)))

    def test_its_cap_and_hold_are_kept(self):
        self.tells((frame(0, TO, 5), out(1)), (frame(0, TO, 6), out(1)), (("look", 1, 6), [-3]),
                   (frame(1, TO, 5), out(0)), (frame(0, TO, 5), [-12]), ("tick", 3), (frame(0, TO, 5), out(1)),
                   start=("begin", 2, 1, 300, 3))


class VlanCalls(Case):

    def emptied(self):
        return [("unpair", side, 70) for side in range(3)]

    def again(self):
        return [("vlan", 7)] + [("pair", side, 70, 7) for side in range(3)]

    def test_a_new_vlan_is_empty_with_begins_age(self):
        self.tells(("age", 1, 50), ("vlan", 7), (("vcounts", 7), [0, 0, 0, 0, 0, 300]), (("rows", 7), [0, 0, 0]))

    def test_novlan_takes_fixed_and_group_rows(self):
        self.tells(*filled(), *self.emptied(), left(7), ("novlan", 7), (("rows", 7), [-1]), (("look", 7, 9), [-1]),
                   (("vcounts", 7), [-1]), *self.again(), (("rows", 7), [0, 0, 0]), (("look", 7, GROUP), [-3]),
                   (frame(0, 10, 5, 70), out((1, 70, 0), (2, 70, 0))), left(1, 5, 6, 8))

    def test_novlan_takes_counts_and_the_age(self):
        self.tells(*filled(), ("age", 7, 9), learned_by_tag(1, 5), (("vcounts", 7), [0, 7, 1, 0, 0, 9]),
                   *self.emptied(), ("novlan", 7), *self.again(), (("vcounts", 7), [0, 0, 0, 0, 0, 300]))

    def test_novlan_takes_gates(self):
        for g in (0, 1):
            self.tells(*self.again(), ("gate", 0, 7, g), ("gate", 1, 7, g), *self.emptied(), ("novlan", 7),
                       *self.again(), learned_by_tag(0, 5), learned_by_tag(2, 6))

    def test_novlan_takes_shuts(self):
        shut = [("lock", 0, 1, 1), learned_by_tag(0, 5), (frame(0, TO, 6, 70), [-13]), ("unlock", 0)]
        self.tells(*self.again(), *shut, *self.emptied(), ("novlan", 7), (("unshut", 0, 7), [-2]), *self.again(),
                   (("unshut", 0, 7), [-2]), learned_by_tag(0, 5), learned_by_tag(1, 6))

    def test_novlan_takes_spread_counts(self):
        spread = [("storm", 0, 1), learned_by_tag(0, 5), (frame(0, TO, 5, 70), [-16])]
        self.tells(*self.again(), *spread, *self.emptied(), ("novlan", 7), *self.again(), learned_by_tag(0, 5),
                   (frame(0, TO, 5, 70), [-16]))

    def test_a_refused_novlan_takes_nothing(self):
        self.tells(*filled(), ("unpair", 0, 70), (("novlan", 7), [-2]), left(7, 6, 8))


class NativeAndPairCalls(Case):

    def test_native_forgets_of_the_one_before_at_this_side(self):
        self.tells(*filled(), ("native", 0, 0), left(1, 6, 8), left(7, 5, 6, 8), (("side", 0), [
            0, 0, 0, 0, 0, 0, -1, 0, 1, 70, 7, 1, 0]))
        self.tells(*filled(), ("vlan", 8), ("native", 2, 8), left(1, 5, 6), left(7, 5, 6, 8))

    def test_native_forgets_secure_rows(self):
        self.tells(("lock", 0, 1, 0), learned(0, 5), ("native", 0, 0), (("look", 1, 5), [-3]))

    def test_native_that_changes_nothing_or_is_refused(self):
        self.tells(*filled(), ("native", 0, 1), (("native", 0, 7), [-3]), (("native", 0, 8), [-2]), left(1, 5, 6, 8),
                   left(7, 5, 6, 8))

    def test_native_where_there_was_none(self):
        self.tells(*filled(), ("native", 0, 0), ("vlan", 8), ("native", 0, 8), left(1, 6, 8), left(7, 5, 6, 8),
                   (frame(0, TO, 5), out()), (("look", 8, 5), [0, 0, 0, 300]))

    def test_unpair_forgets_of_its_vlan_at_this_side(self):
        self.tells(*filled(), ("unpair", 0, 70), left(7, 6, 8), left(1, 5, 6, 8), (frame(0, TO, 5, 70), [-6]),
                   (frame(1, TO, 6, 70), out((2, 70, 0))))

    def test_unpair_forgets_secure_rows(self):
        self.tells(("vlan", 7), ("pair", 0, 70, 7), ("lock", 0, 1, 0), (frame(0, TO, 5, 70), out()), ("unpair", 0, 70),
                   (("rows", 7), [0, 0, 0]))

    def test_gates_outlast_being_in_the_vlan(self):
        self.tells(("gate", 0, 1, 1), ("native", 0, 0), ("native", 0, 1), (frame(0, TO, 5), [-14]),
                   ("gate", 0, 1, 0), ("native", 0, 0), ("pair", 0, 70, 1), (frame(0, TO, 5, 70), [-8]))

    def test_shuts_outlast_being_in_the_vlan(self):
        self.tells(("lock", 0, 1, 1), learned(0, 5), (frame(0, TO, 6), [-13]), ("native", 0, 0), ("native", 0, 1),
                   (frame(0, TO, 5), [-9]), ("unshut", 0, 1), learned(0, 6))

    def test_spread_counts_outlast_being_in_the_vlan(self):
        self.tells(("storm", 0, 1), learned(0, 5), ("native", 0, 0), ("native", 0, 1), (frame(0, TO, 5), [-16]))


class PortCalls(Case):

    def test_plug_settles(self):
        self.tells(*filled(), ("plug", 0, 1), left(1, 6, 8), left(7, 6, 8), (("side", 0), [
            0, 1, 0, 0, 0, 0, -1, 0, 1, 70, 7, 0]), (frame(0, TO, 5), out(2)), (("look", 1, 5), [0, 0, 1, 300]))

    def test_plug_where_the_side_keeps_a_live_port(self):
        self.tells(*filled(), ("plug", 2, 0), ("plug", 0, 1), left(1, 5, 6), ("plug", 2, 1), left(1, 6))

    def test_plug_that_changes_nothing_or_is_refused(self):
        self.tells(*filled(), ("plug", 0, 0), (("plug", 0, 3), [-2]), left(1, 5, 6, 8))

    def test_unplug_settles(self):
        self.tells(*filled(), ("unplug", 2), left(1, 5, 6), left(7, 5, 6), (frame(2, TO, 8), [-3]),
                   (frame(0, 8, 5), out(1)), ("plug", 2, 2), (frame(0, TO, 5), out(1, 2)))

    def test_unplug_where_the_side_keeps_a_live_port(self):
        self.tells(*filled(), ("plug", 2, 0), ("unplug", 0), left(1, 5, 6), ("link", 2, 0), left(1, 6))

    def test_link_settles(self):
        self.tells(*filled(), ("link", 1, 0), left(1, 5, 8), left(7, 5, 8), (frame(0, 11, 5), out()), ("link", 1, 1),
                   left(1, 5, 8), (frame(0, 11, 5), out(1)), (frame(0, GROUP, 5), out(1)))

    def test_link_where_the_side_keeps_a_live_port(self):
        self.tells(*filled(), ("plug", 2, 0), ("link", 0, 0), left(1, 5, 6), ("link", 2, 0), left(1, 6))

    def test_settling_forgets_secure_rows(self):
        for call in (("plug", 0, 1), ("unplug", 0), ("link", 0, 0)):
            self.tells(("lock", 0, 1, 0), learned(0, 5), call, (("look", 1, 5), [-3]))

    def test_a_ports_counts_go_with_it(self):
        self.tells(learned(0, 5), ("plug", 0, 1), (frame(0, TO, 5), out(2)), (("counts", 0), counted(2, 2)),
                   ("unplug", 0), (("counts", 0), counted(2, 2)))

    def test_gates_shuts_and_spread_counts_outlast_the_ports(self):
        self.tells(("storm", 0, 1), learned(0, 5), ("link", 0, 0), ("link", 0, 1), (frame(0, TO, 5), [-16]),
                   ("gate", 0, 1, 1), ("unplug", 0), ("plug", 0, 0), (frame(0, TO, 5), [-14]))


class SideCalls(Case):

    def test_apart_and_rank_forget_nothing(self):
        self.tells(*filled(), ("apart", 0, 1), ("rank", 0, 3), ("storm", 0, 0), ("watch", 0, 3), left(1, 5, 6, 8),
                   left(7, 5, 6, 8))

    def test_gate_0_forgets_of_that_vlan_at_that_side(self):
        self.tells(*filled(), ("gate", 0, 7, 0), left(7, 6, 8), left(1, 5, 6, 8), (frame(0, TO, 5, 70), [-8]),
                   learned(0, 5))

    def test_gate_0_forgets_secure_rows(self):
        self.tells(("lock", 0, 1, 0), learned(0, 5), ("gate", 0, 1, 0), (("look", 1, 5), [-3]))

    def test_the_other_gates_forget_nothing(self):
        self.tells(*filled(), ("gate", 0, 7, 1), ("gate", 1, 7, 2), left(7, 5, 6, 8), left(1, 5, 6, 8),
                   (("gate", 0, 7, 3), [-3]), left(7, 5, 6, 8))

    def test_lock_forgets_of_every_vlan(self):
        self.tells(*filled(), ("lock", 0, 1, 0), left(1, 6, 8), left(7, 6, 8))
        self.tells(*filled(), (("lock", 0, 0, 0), [-2]), left(1, 5, 6, 8))

    def test_lock_in_place_of_a_lock(self):
        self.tells(("lock", 0, 1, 1), learned(0, 5), ("lock", 0, 2, 0), (("look", 1, 5), [-3]), learned(0, 5),
                   learned(0, 6), (frame(0, TO, 7), [-13]), (("unshut", 0, 1), [-2]))

    def test_lock_leaves_shuts(self):
        self.tells(("lock", 0, 1, 1), learned(0, 5), (frame(0, TO, 6), [-13]), ("lock", 0, 1, 0),
                   (frame(0, TO, 5), [-9]))

    def test_unlock_makes_rows_learned_that_may_move_at_once(self):
        self.tells(
            ("vlan", 7), ("pair", 0, 70, 7), ("age", 7, 9), ("lock", 0, 2, 0), ("lock", 1, 1, 0), learned(0, 5),
            learned(1, 6), (frame(0, TO, 5, 70), out()), ("tick", 1000), ("unlock", 0),
            (("look", 1, 5), [0, 0, 0, 300]), (("look", 7, 5), [0, 0, 0, 9]), (("look", 1, 6), [0, 1, 1, 0]),
            ("tick", 9), (("look", 7, 5), [-3]), learned(2, 5), (("look", 1, 5), [0, 0, 2, 300]),
            (("vcounts", 1), [0, 2, 1, 0, 0, 300]))

    def test_a_row_that_moved_here_may_move_at_once_behind_unlock(self):
        self.tells(learned(1, 5), ("lock", 0, 1, 0), learned(0, 5), ("unlock", 0), learned(1, 5),
                   (frame(0, TO, 5), [-12]))

    def test_unlock_leaves_learned_and_fixed_rows(self):
        self.tells(("lock", 2, 1, 0), learned(0, 5), ("fix", 1, 6, 2), ("tick", 5), ("unlock", 2),
                   (("look", 1, 5), [0, 0, 0, 295]), (("look", 1, 6), [0, 2, 2, 0]))

    def test_unshut_opens_that_side_and_vlan_alone(self):
        shut = [("lock", side, 1, 1) for side in (0, 1)]
        shut += [learned(0, 5), learned(1, 6), (frame(0, TO, 7), [-13]), (frame(1, TO, 7), [-13])]
        self.tells(*shut, ("unshut", 0, 1), (("unshut", 0, 1), [-2]), (frame(0, TO, 5), out(2)),
                   (frame(1, TO, 6), [-9]), ("unshut", 1, 1), learned(1, 6), (("rows", 1), [0, 2, 5, 1, 0, 6, 1, 1, 0]))

    def test_storm_leaves_spread_counts(self):
        self.tells(learned(0, 5), ("storm", 0, 1), (frame(0, TO, 5), [-16]), ("storm", 0, -1), learned(0, 5),
                   ("storm", 0, 2), (frame(0, TO, 5), [-16]), ("storm", 0, 3), learned(0, 5))


class LongLists(unittest.TestCase):

    def test_four_hundred_calls_that_learn(self):
        calls = [("begin", 64, 65536, 1000000, 1000000)]
        calls += [frame(number % 64, 0, number + 1) for number in range(398)] + [("rows", 1)]
        told = ask(*calls)
        self.assertEqual(len(told), 400)
        self.assertEqual(told[1], out(*range(1, 64)))
        rows = [number for place in range(398) for number in (place + 1, 0, place % 64)]
        self.assertEqual(told[-1], [0, 398, *rows, 0])

    def test_many_vlans(self):
        calls = [START] + [("vlan", v) for v in range(2, 65)] + [("pair", 0, v, v) for v in range(2, 65)]
        calls += [frame(0, 0, 5, v) for v in range(2, 65)] + [("flush", 0, -1)]
        self.assertEqual(ask(*calls)[-1], [63])


if __name__ == "__main__":
    unittest.main()
