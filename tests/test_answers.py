"""What the calls 1 to 15 answer: 0 where nothing refuses, else the first refusal."""

import unittest

from helper import GREATEST, LEAST, NO_FLAGS, NO_SIDES, NO_VLANS, START, Case, ask


class VlanCall(Case):

    def test_edges(self):
        self.takes([("vlan", 2), ("vlan", 4094)])
        self.refuses(-1, [("vlan", v) for v in (-1, 0, 4095, LEAST, GREATEST)])

    def test_one_that_is_there(self):
        self.refuses(-2, [("vlan", 1)])
        self.refuses(-2, [("vlan", 7)], ("vlan", 7))

    def test_sixty_four_are_the_most(self):
        full = [("vlan", v) for v in range(2, 65)]
        self.assertEqual(ask(START, *full), [[0]] * 64)
        self.refuses(-3, [("vlan", 65), ("vlan", 4094)], *full)
        self.takes([("vlan", 65)], *full, ("novlan", 30))

    def test_order(self):
        full = [("vlan", v) for v in range(2, 65)]
        self.refuses(-1, [("vlan", 0), ("vlan", 4095)], *full)
        self.refuses(-2, [("vlan", 1), ("vlan", 64)], *full)


class NovlanCall(Case):

    def test_taken_and_gone(self):
        self.takes([("novlan", 7)], ("vlan", 7))
        self.refuses(-1, [("novlan", 7)], ("vlan", 7), ("novlan", 7))
        self.takes([("vlan", 7)], ("vlan", 7), ("novlan", 7))

    def test_no_vlan(self):
        self.refuses(-1, [("novlan", v) for v in NO_VLANS])
        self.refuses(-1, [("novlan", 0)], ("native", 0, 0))

    def test_a_side_is_in_it(self):
        self.refuses(-2, [("novlan", 1)])
        self.refuses(-2, [("novlan", 1)], ("native", 0, 0), ("native", 1, 0))
        self.refuses(-2, [("novlan", 7)], ("vlan", 7), ("native", 2, 7))
        self.refuses(-2, [("novlan", 7)], ("vlan", 7), ("pair", 2, 9, 7))

    def test_the_first_vlan_may_go(self):
        none = [("native", side, 0) for side in range(3)]
        self.takes([("novlan", 1)], *none)
        self.refuses(-1, [("novlan", 1)], *none, ("novlan", 1))
        self.takes([("vlan", 1)], *none, ("novlan", 1))

    def test_a_pairs_tag_alone_holds_no_vlan(self):
        self.takes([("novlan", 9)], ("vlan", 7), ("vlan", 9), ("pair", 2, 9, 7))


class NativeCall(Case):

    def test_no_side(self):
        self.refuses(-1, [("native", side, 1) for side in NO_SIDES])
        self.takes([("native", 0, 0), ("native", 2, 0)])

    def test_no_vlan(self):
        self.refuses(-2, [("native", 0, v) for v in NO_VLANS if v != 0])

    def test_the_same_again(self):
        self.takes([("native", 0, 1)])
        self.takes([("native", 0, 0)], ("native", 0, 0))

    def test_in_a_pair(self):
        self.refuses(-3, [("native", 0, 7)], ("vlan", 7), ("pair", 0, 9, 7))
        self.takes([("native", 1, 7)], ("vlan", 7), ("pair", 0, 9, 7))
        self.takes([("native", 0, 9)], ("vlan", 7), ("vlan", 9), ("pair", 0, 9, 7))
        self.takes([("native", 0, 7)], ("vlan", 7), ("pair", 0, 9, 7), ("unpair", 0, 9))

    def test_what_it_sets(self):
        self.refuses(-5, [("pair", 0, 9, 7)], ("vlan", 7), ("native", 0, 7))
        self.takes([("pair", 0, 9, 1)], ("vlan", 7), ("native", 0, 7))
        self.takes([("pair", 0, 9, 1)], ("native", 0, 0))
        self.refuses(-5, [("pair", 1, 9, 1)], ("native", 0, 0))

    def test_order(self):
        self.refuses(-1, [("native", 3, 2), ("native", -1, GREATEST)])


class PairCall(Case):

    def test_edges_of_the_tag(self):
        self.takes([("pair", 0, 1, 7), ("pair", 2, 4094, 7), ("pair", 0, 7, 7)], ("vlan", 7))
        self.refuses(-2, [("pair", 0, tag, 7) for tag in (-1, 0, 4095, LEAST, GREATEST)], ("vlan", 7))

    def test_no_side(self):
        self.refuses(-1, [("pair", side, 9, 7) for side in NO_SIDES], ("vlan", 7))

    def test_no_vlan(self):
        self.refuses(-3, [("pair", 0, 9, v) for v in NO_VLANS])

    def test_the_tag_is_used(self):
        two = [("vlan", 7), ("vlan", 8), ("pair", 0, 9, 7)]
        self.refuses(-4, [("pair", 0, 9, 8)], *two)
        self.takes([("pair", 0, 10, 8), ("pair", 1, 9, 8)], *two)

    def test_the_side_is_in_it(self):
        self.refuses(-5, [("pair", 0, 9, 1)])
        self.refuses(-5, [("pair", 0, 10, 7)], ("vlan", 7), ("pair", 0, 9, 7))
        self.takes([("pair", 1, 10, 7)], ("vlan", 7), ("pair", 0, 9, 7))

    def test_order(self):
        self.refuses(-1, [("pair", 3, 0, 2)])
        self.refuses(-2, [("pair", 0, 0, 2), ("pair", 0, 4095, 1)])
        self.refuses(-3, [("pair", 0, 9, 2)], ("vlan", 7), ("pair", 0, 9, 7))
        self.refuses(-4, [("pair", 0, 9, 1), ("pair", 0, 9, 7)], ("vlan", 7), ("pair", 0, 9, 7))


class UnpairCall(Case):

    def test_taken_and_gone(self):
        pair = [("vlan", 7), ("pair", 0, 9, 7)]
        self.takes([("unpair", 0, 9)], *pair)
        self.refuses(-2, [("unpair", 0, 9)], *pair, ("unpair", 0, 9))
        self.takes([("novlan", 7), ("pair", 0, 9, 7), ("native", 0, 7)], *pair, ("unpair", 0, 9))

    def test_the_other_pairs_stay(self):
        pairs = [("vlan", 7), ("vlan", 8), ("pair", 0, 9, 7), ("pair", 0, 10, 8), ("pair", 1, 9, 7), ("unpair", 0, 9)]
        self.takes([("unpair", 0, 10), ("unpair", 1, 9)], *pairs)

    def test_refusals(self):
        pair = [("vlan", 7), ("pair", 0, 9, 7)]
        self.refuses(-1, [("unpair", side, 9) for side in NO_SIDES], *pair)
        self.refuses(-2, [("unpair", 0, tag) for tag in (-1, 0, 1, 7, 4095, LEAST, GREATEST)], *pair)
        self.refuses(-2, [("unpair", 1, 9)], *pair)


class PlugCall(Case):

    def eight(self):
        return [("begin", 10, 1, 1, 0)] + [("plug", port, 0) for port in range(1, 8)]

    def test_no_port_and_no_side(self):
        self.refuses(-1, [("plug", port, 0) for port in NO_SIDES])
        self.refuses(-2, [("plug", 0, side) for side in NO_SIDES])
        self.refuses(-1, [("plug", 3, 3), ("plug", -1, -1)])
        self.takes([("plug", 0, 2), ("plug", 2, 0)])

    def test_eight_ports_of_a_side(self):
        self.assertEqual(ask(*self.eight()), [[0]] * 8)
        self.assertEqual(ask(*self.eight(), ("plug", 8, 0))[-1], [-3])
        self.assertEqual(ask(*self.eight(), ("plug", 8, 1))[-1], [0])

    def test_a_port_that_is_the_sides_already(self):
        for port in range(8):
            self.assertEqual(ask(*self.eight(), ("plug", port, 0))[-1], [0])
        self.takes([("plug", 1, 1)])

    def test_a_port_is_one_sides_alone(self):
        self.assertEqual(ask(*self.eight(), ("plug", 7, 1), ("plug", 8, 0), ("plug", 9, 0))[-2:], [[0], [-3]])

    def test_a_port_that_is_down_counts(self):
        self.assertEqual(ask(*self.eight(), ("link", 3, 0), ("plug", 8, 0))[-1], [-3])

    def test_a_port_that_is_no_sides(self):
        self.takes([("plug", 0, 0), ("plug", 0, 1)], ("unplug", 0))
        self.takes([("unplug", 0)], ("unplug", 0), ("plug", 0, 1))


class UnplugCall(Case):

    def test_taken_once(self):
        self.takes([("unplug", 0), ("unplug", 2)])
        self.refuses(-2, [("unplug", 0)], ("unplug", 0))
        self.takes([("unplug", 1)], ("unplug", 0))

    def test_no_port(self):
        self.refuses(-1, [("unplug", port) for port in NO_SIDES])

    def test_it_makes_room(self):
        eight = [("begin", 10, 1, 1, 0)] + [("plug", port, 0) for port in range(1, 8)]
        self.assertEqual(ask(*eight, ("unplug", 0), ("plug", 8, 0), ("plug", 0, 0))[-2:], [[0], [-3]])

    def test_a_port_that_is_down_may_go(self):
        self.takes([("unplug", 0)], ("link", 0, 0))


class LinkCall(Case):

    def test_answers(self):
        self.takes([("link", port, x) for port in (0, 2) for x in (0, 1)])
        self.takes([("link", 0, 0)], ("link", 0, 0))
        self.takes([("link", 0, 0), ("link", 0, 1)], ("unplug", 0))
        self.refuses(-1, [("link", port, 1) for port in NO_SIDES])
        self.refuses(-2, [("link", 0, x) for x in NO_FLAGS])
        self.refuses(-1, [("link", 3, 2)])

    def test_a_port_that_is_down_stays_its_sides(self):
        self.assertEqual(ask(START, ("link", 0, 0), ("unplug", 0), ("unplug", 0))[-2:], [[0], [-2]])


class ApartCall(Case):

    def test_answers(self):
        self.takes([("apart", side, x) for side in (0, 2) for x in (0, 1)])
        self.refuses(-1, [("apart", side, 1) for side in NO_SIDES])
        self.refuses(-2, [("apart", 0, x) for x in NO_FLAGS])
        self.refuses(-1, [("apart", 3, 2)])


class RankCall(Case):

    def test_answers(self):
        self.takes([("rank", side, r) for side in (0, 2) for r in range(8)])
        self.refuses(-1, [("rank", side, 1) for side in NO_SIDES])
        self.refuses(-2, [("rank", 0, r) for r in (-1, 8, LEAST, GREATEST)])
        self.refuses(-1, [("rank", 3, 8)])


class GateCall(Case):

    def test_answers(self):
        self.takes([("gate", side, 1, g) for side in (0, 2) for g in range(3)])
        self.takes([("gate", 0, 7, 0)], ("vlan", 7))
        self.refuses(-1, [("gate", side, 1, 1) for side in NO_SIDES])
        self.refuses(-2, [("gate", 0, v, 1) for v in NO_VLANS])
        self.refuses(-3, [("gate", 0, 1, g) for g in (-1, 3, LEAST, GREATEST)])

    def test_order(self):
        self.refuses(-1, [("gate", 3, 2, 3), ("gate", 3, 1, 3)])
        self.refuses(-2, [("gate", 0, 2, 3)])


class LockCall(Case):

    def test_answers(self):
        self.takes([("lock", side, most, x) for side in (0, 2) for most in (1, 65536) for x in (0, 1)])
        self.takes([("lock", 0, 5, 0)], ("lock", 0, 4, 1))
        self.refuses(-1, [("lock", side, 1, 1) for side in NO_SIDES])
        self.refuses(-2, [("lock", 0, most, 1) for most in (-1, 0, 65537, LEAST, GREATEST)])
        self.refuses(-3, [("lock", 0, 1, x) for x in NO_FLAGS])

    def test_order(self):
        self.refuses(-1, [("lock", 3, 0, 2), ("lock", 3, 1, 2)])
        self.refuses(-2, [("lock", 0, 0, 2)])

    def test_a_refused_lock_locks_nothing(self):
        self.refuses(-2, [("unlock", 0)], ("lock", 0, 0, 1))
        self.refuses(-2, [("unlock", 0)], ("lock", 0, 1, 2))


class UnlockCall(Case):

    def test_answers(self):
        self.takes([("unlock", 0)], ("lock", 0, 65536, 1))
        self.takes([("unlock", 0)], ("lock", 0, 1, 0), ("lock", 0, 2, 0))
        self.refuses(-2, [("unlock", 0)])
        self.refuses(-2, [("unlock", 0)], ("lock", 0, 1, 0), ("unlock", 0))
        self.refuses(-2, [("unlock", 1)], ("lock", 0, 1, 0))
        self.refuses(-1, [("unlock", side) for side in NO_SIDES])


class UnshutCall(Case):

    def test_answers(self):
        self.refuses(-1, [("unshut", side, 1) for side in NO_SIDES])
        self.refuses(-1, [("unshut", 3, 2)])
        self.refuses(-2, [("unshut", 0, v) for v in NO_VLANS + (1,)])
        self.refuses(-2, [("unshut", 0, 1)], ("lock", 0, 1, 1))


class StormCall(Case):

    def test_answers(self):
        self.takes([("storm", side, n) for side in (0, 2) for n in (-1, 0, 1, 1000000000)])
        self.refuses(-1, [("storm", side, 1) for side in NO_SIDES])
        self.refuses(-2, [("storm", 0, n) for n in (-2, 1000000001, LEAST, GREATEST)])
        self.refuses(-1, [("storm", 3, -2)])


if __name__ == "__main__":
    unittest.main()
