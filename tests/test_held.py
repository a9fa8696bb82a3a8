"""What the calls 0 to 15 do to what a switch holds, and that a refusal of any call does nothing."""

import unittest

from helper import GREATEST, GROUP, LEAST, NAMES, START
from learnswitch.desk import Desk, answer_call
from learnswitch.held import FIXED, LEARNED, SECURE, Row


def say(desk, name, *given):
    return answer_call(desk, NAMES.index(name), list(given))


def begun(*calls, start=START):
    """A desk at which begin and the calls were answered with 0."""
    desk = Desk()
    for call in (start,) + calls:
        answer = say(desk, *call)
        if answer != [0]:
            raise AssertionError(f"{call} answered {answer}")
    return desk


def picture(thing):
    """All that a thing holds, as plain values that can be compared."""
    if isinstance(thing, dict):
        return {key: picture(value) for key, value in thing.items()}
    if isinstance(thing, list):
        return [picture(value) for value in thing]
    if hasattr(thing, "__dict__"):
        return picture(vars(thing))
    return thing


def rows_left(desk):
    """The hardware numbers that have a row, by VLAN."""
    return {v: sorted(vlan.rows) for v, vlan in desk.switch.vlans.items()}


def row_of_kind(kind, side):
    return Row(kind, side, 250 if kind == LEARNED else 0, 0)


def filled():
    """A switch that holds something of everything.

    The rows of each VLAN, by hardware number: 1, 2, 3 learned at side 0, 1, 2;
    11, 12, 13 secure there; 21, 22, 23 fixed there; 20 fixed nowhere.
    """
    desk = begun(("vlan", 7), ("vlan", 8), ("pair", 0, 70, 7), ("pair", 1, 71, 7), ("pair", 2, 80, 8))
    switch = desk.switch
    for vlan in switch.vlans.values():
        for kind, base in ((LEARNED, 1), (SECURE, 11), (FIXED, 21)):
            for side in range(3):
                vlan.rows[base + side] = row_of_kind(kind, side)
        vlan.rows[20] = row_of_kind(FIXED, -1)
        vlan.groups[GROUP] = {0: True, 2: True}
        vlan.shut = [1, 1, 0]
        vlan.spread = [4, 5, 6]
        vlan.moves, vlan.missed, vlan.breaches = 1, 2, 3
    switch.now = 40
    switch.mirror = 2
    switch.ports[1].taken = 9
    switch.ports[1].dropped[0] = 2
    return desk


ALL = [1, 2, 3, 11, 12, 13, 20, 21, 22, 23]


def without(*gone):
    return [hw for hw in ALL if hw not in gone]


class Change(unittest.TestCase):
    """Tells exactly what a call changes, by the places of what is held."""

    def changes(self, desk, call, expected):
        """The call answers 0, and what is held differs just at the given places."""
        before = picture(desk.switch)
        self.assertEqual(say(desk, *call), [0], call)
        self.assertEqual(differences(before, picture(desk.switch)), expected, call)


def differences(before, after, path=()):
    """{place: what stands there now}; None for what is gone."""
    if isinstance(before, list) and isinstance(after, list) and len(before) == len(after):
        before, after = dict(enumerate(before)), dict(enumerate(after))
    if not (isinstance(before, dict) and isinstance(after, dict)):
        return {} if before == after else {path: after}
    found = {path + (key,): None for key in before if key not in after}
    for key in after:
        place = path + (key,)
        found.update(differences(before[key], after[key], place) if key in before else {place: after[key]})
    return found


def rows_gone(*places):
    """Places of rows, each told as (VLAN, hardware number)."""
    return {("vlans", v, "rows", hw): None for v, hw in places}


def gone_everywhere(*numbers):
    return rows_gone(*[(v, hw) for v in (1, 7, 8) for hw in numbers])


class New(unittest.TestCase):

    def test_all_that_begin_makes(self):
        port = {"up": 1, "taken": 0, "passed": 0, "given": 0, "dropped": [0] * 14}
        side = {"native": 1, "pairs": {}, "apart": 0, "rank": 0, "most": 0, "lock_shuts": 0,
                "storm": -1, "watched": 0}
        vlan = {"age": 300, "moves": 0, "missed": 0, "breaches": 0, "rows": {}, "groups": {},
                "gates": [2, 2], "shut": [0, 0], "spread": [0, 0]}
        desk = begun(start=("begin", 2, 4, 300, 20))
        self.assertEqual(picture(desk.switch), {
            "ports": [dict(port, side=0), dict(port, side=1)], "sides": [side, side],
            "vlans": {1: vlan}, "cap": 4, "age": 300, "hold": 20, "mirror": -1, "now": 0})

    def test_a_second_begin_leaves_nothing_of_the_first(self):
        desk = filled()
        self.assertEqual(say(desk, "begin", 2, 5, 6, 7), [0])
        self.assertEqual(picture(desk.switch), picture(begun(start=("begin", 2, 5, 6, 7)).switch))

    def test_a_refused_begin_changes_nothing(self):
        for given in ((65, 1, 1, 0), (1, 0, 1, 0), (1, 1, 0, 0), (1, 1, 1, -1)):
            desk = filled()
            self.assertEqual(say(desk, "begin", *given), [-1])
            self.assertEqual(picture(desk.switch), picture(filled().switch), given)

    def test_a_refused_begin_makes_no_switch(self):
        desk = Desk()
        self.assertEqual(say(desk, "begin", 0, 1, 1, 0), [-1])
        self.assertIsNone(desk.switch)

    def test_nothing_is_shared_between_places(self):
        desk = begun(("vlan", 7), ("pair", 0, 9, 7), ("gate", 0, 1, 1), ("rank", 0, 3), ("link", 0, 0))
        desk.switch.ports[0].dropped[0] = 1
        self.assertEqual(desk.switch.sides[1].pairs, {})
        self.assertEqual(desk.switch.sides[1].rank, 0)
        self.assertEqual(desk.switch.vlans[7].gates, [2, 2, 2])
        self.assertEqual(desk.switch.ports[1].up, 1)
        self.assertEqual(desk.switch.ports[1].dropped, [0] * 14)


class Refusals(unittest.TestCase):

    def test_a_refusal_changes_nothing(self):
        refused = [
            ("vlan", 0), ("vlan", 7), ("novlan", 9), ("novlan", 7), ("native", 3, 0), ("native", 0, 9),
            ("native", 0, 7), ("pair", 3, 1, 1), ("pair", 0, 0, 8), ("pair", 0, 9, 9), ("pair", 0, 70, 8),
            ("pair", 0, 9, 7), ("unpair", 3, 70), ("unpair", 0, 71), ("plug", 3, 0), ("plug", 0, 3), ("unplug", 3),
            ("link", 3, 0), ("link", 0, 2), ("apart", 3, 1), ("apart", 0, 2), ("rank", 3, 1), ("rank", 0, 8),
            ("gate", 3, 1, 0), ("gate", 0, 9, 0), ("gate", 0, 1, 3), ("lock", 3, 1, 1), ("lock", 0, 0, 1),
            ("lock", 0, 1, 2), ("unlock", 3), ("unlock", 0), ("unshut", 3, 1), ("unshut", 2, 1), ("storm", 3, 1),
            ("storm", 0, -2),
            ("age", 9, 5), ("age", 1, 0), ("shorten", 9, 0), ("shorten", 1, -1), ("fix", 9, 5, 0), ("fix", 1, 0, 0),
            ("fix", 1, 1, 3), ("unfix", 9, 21), ("unfix", 1, 1), ("unfix", 1, 11), ("join", 9, GROUP, 1),
            ("join", 1, 5, 1), ("join", 1, GROUP, 3), ("leave", 9, GROUP, 0), ("leave", 1, GROUP, 1),
            ("flush", 9, 0), ("flush", 1, 3), ("mirror", 3), ("watch", 3, 1), ("watch", 0, 4), ("tick", 0),
            ("tick", 2 ** 62), ("frame", 3, 1, 5, -1, 0), ("frame", 0, 1, 5, -1, 1), ("look", 9, 1), ("look", 1, -1),
            ("look", 1, 5), ("rows", 9), ("counts", 3), ("vcounts", 9), ("side", 3),
        ]
        desk = filled()
        before = picture(desk.switch)
        for call in refused:
            self.assertLess(say(desk, *call)[0], 0, call)
            self.assertEqual(picture(desk.switch), before, call)

    def test_a_refusal_at_the_cap_changes_nothing(self):
        desk = filled()
        desk.switch.cap = 11
        before = picture(desk.switch)
        for call in (("fix", 1, 5, 0), ("join", 1, GROUP + 1, 0)):
            self.assertEqual(say(desk, *call), [-4], call)
            self.assertEqual(picture(desk.switch), before, call)

    def test_telling_changes_nothing(self):
        desk = filled()
        before = picture(desk.switch)
        for call in (("look", 1, 1), ("look", 7, GROUP), ("rows", 1), ("counts", 1), ("vcounts", 1), ("side", 0)):
            self.assertEqual(say(desk, *call)[0], 0, call)
            self.assertEqual(picture(desk.switch), before, call)

    def test_a_refused_plug_and_unplug_and_sixty_fifth_vlan(self):
        desk = begun(*[("plug", port, 0) for port in range(1, 8)], ("unplug", 9),
                     *[("vlan", v) for v in range(2, 65)], start=("begin", 10, 4, 300, 0))
        desk.switch.vlans[1].rows[5] = row_of_kind(LEARNED, 8)
        before = picture(desk.switch)
        for call, number in ((("plug", 8, 0), -3), (("unplug", 9), -2), (("vlan", 65), -3)):
            self.assertEqual(say(desk, *call), [number], call)
            self.assertEqual(picture(desk.switch), before, call)


class Vlans(Change):

    def test_a_new_vlan_has_begins_age_and_nothing_else(self):
        desk = begun(start=("begin", 2, 4, 300, 0))
        desk.switch.vlans[1].age = 77
        self.changes(desk, ("vlan", 4094), {("vlans", 4094): {
            "age": 300, "moves": 0, "missed": 0, "breaches": 0, "rows": {}, "groups": {},
            "gates": [2, 2], "shut": [0, 0], "spread": [0, 0]}})

    def test_a_vlan_goes_with_all_that_is_its(self):
        desk = filled()
        say(desk, "unpair", 2, 80)
        say(desk, "gate", 1, 8, 1)
        self.changes(desk, ("novlan", 8), {("vlans", 8): None})
        self.assertEqual(say(desk, "unshut", 0, 8), [-2])
        say(desk, "vlan", 8)
        fresh = begun(("vlan", 8)).switch.vlans[8]
        self.assertEqual(picture(desk.switch.vlans[8]), picture(fresh))
        self.assertEqual(say(desk, "unshut", 0, 8), [-2])

    def test_the_first_vlan_may_go_and_come_again(self):
        desk = begun(*[("native", side, 0) for side in range(3)], ("novlan", 1))
        self.assertEqual(desk.switch.vlans, {})
        self.changes(desk, ("vlan", 1), {("vlans", 1): picture(begun().switch.vlans[1])})

    def test_native_forgets_what_was_before_at_this_side_alone(self):
        self.changes(filled(), ("native", 0, 8), {("sides", 0, "native"): 8, **rows_gone((1, 1), (1, 11))})
        self.changes(filled(), ("native", 2, 0), {("sides", 2, "native"): 0, **rows_gone((1, 3), (1, 13))})

    def test_native_where_none_was_forgets_nothing(self):
        desk = filled()
        desk.switch.sides[0].native = 0
        self.changes(desk, ("native", 0, 1), {("sides", 0, "native"): 1})
        self.changes(desk, ("native", 0, 1), {})

    def test_the_same_native_changes_nothing(self):
        desk = filled()
        self.changes(desk, ("native", 0, 1), {})
        desk.switch.sides[0].native = 0
        self.changes(desk, ("native", 0, 0), {})

    def test_a_pair_is_added(self):
        self.changes(filled(), ("pair", 0, 4094, 8), {("sides", 0, "pairs", 4094): 8})
        self.changes(filled(), ("pair", 1, 1, 8), {("sides", 1, "pairs", 1): 8})

    def test_unpair_forgets_rows_of_its_vlan_at_this_side(self):
        self.changes(filled(), ("unpair", 0, 70), {("sides", 0, "pairs", 70): None, **rows_gone((7, 1), (7, 11))})
        self.changes(filled(), ("unpair", 2, 80), {("sides", 2, "pairs", 80): None, **rows_gone((8, 3), (8, 13))})

    def test_gates_and_shuts_outlast_being_in_a_vlan(self):
        desk = filled()
        say(desk, "gate", 0, 7, 1)
        say(desk, "unpair", 0, 70)
        self.assertEqual(desk.switch.vlans[7].gates, [1, 2, 2])
        self.assertEqual(say(desk, "unshut", 0, 7), [0])


class Ports(Change):

    def test_plug_moves_the_port_and_settles(self):
        self.changes(filled(), ("plug", 0, 1), {("ports", 0, "side"): 1, **gone_everywhere(1, 11)})

    def test_plug_of_the_same_side_changes_nothing(self):
        desk = filled()
        desk.switch.ports[2].up = 0
        self.changes(desk, ("plug", 0, 0), {})
        self.changes(desk, ("plug", 2, 2), {})

    def test_plug_leaves_a_side_that_keeps_a_live_port(self):
        desk = begun(("plug", 0, 1))
        desk.switch.vlans[1].rows = {2: row_of_kind(LEARNED, 1)}
        self.changes(desk, ("plug", 0, 2), {("ports", 0, "side"): 2})
        self.changes(desk, ("plug", 1, 2), {("ports", 1, "side"): 2, **rows_gone((1, 2))})

    def test_plug_leaves_a_side_with_a_port_that_is_down(self):
        desk = begun(("plug", 0, 1), ("link", 0, 0))
        desk.switch.vlans[1].rows = {2: row_of_kind(SECURE, 1)}
        self.changes(desk, ("plug", 1, 2), {("ports", 1, "side"): 2, **rows_gone((1, 2))})

    def test_unplug_settles(self):
        self.changes(filled(), ("unplug", 2), {("ports", 2, "side"): -1, **gone_everywhere(3, 13)})

    def test_a_port_that_is_no_sides_is_plugged_again(self):
        desk = begun(("unplug", 0))
        self.changes(desk, ("plug", 0, 2), {("ports", 0, "side"): 2})

    def test_link_down_settles_and_link_up_forgets_nothing(self):
        desk = filled()
        self.changes(desk, ("link", 1, 1), {})
        self.changes(desk, ("link", 1, 0), {("ports", 1, "up"): 0, **gone_everywhere(2, 12)})
        self.changes(desk, ("link", 1, 0), {})
        self.changes(desk, ("link", 1, 1), {("ports", 1, "up"): 1})

    def test_link_down_of_one_of_two_live_ports(self):
        desk = begun(("plug", 0, 1))
        desk.switch.vlans[1].rows = {2: row_of_kind(LEARNED, 1)}
        self.changes(desk, ("link", 0, 0), {("ports", 0, "up"): 0})
        self.changes(desk, ("link", 1, 0), {("ports", 1, "up"): 0, **rows_gone((1, 2))})

    def test_link_of_a_port_that_is_no_sides(self):
        desk = begun(("unplug", 0))
        desk.switch.vlans[1].rows = {2: row_of_kind(LEARNED, 1), 20: row_of_kind(FIXED, -1)}
        self.changes(desk, ("link", 0, 0), {("ports", 0, "up"): 0})

    def test_settling_is_for_every_side(self):
        for call, place in ((("plug", 0, 1), ("ports", 0, "side")), (("unplug", 0), ("ports", 0, "side")),
                            (("link", 0, 0), ("ports", 0, "up"))):
            desk = filled()
            desk.switch.ports[2].up = 0
            say(desk, *call)
            self.assertEqual(rows_left(desk), {v: without(1, 11, 3, 13) for v in (1, 7, 8)}, call)


class Sides(Change):

    def test_apart(self):
        desk = filled()
        self.changes(desk, ("apart", 2, 1), {("sides", 2, "apart"): 1})
        self.changes(desk, ("apart", 2, 1), {})
        self.changes(desk, ("apart", 2, 0), {("sides", 2, "apart"): 0})

    def test_rank(self):
        desk = filled()
        self.changes(desk, ("rank", 1, 7), {("sides", 1, "rank"): 7})
        self.changes(desk, ("rank", 1, 0), {("sides", 1, "rank"): 0})

    def test_gate(self):
        desk = filled()
        self.changes(desk, ("gate", 1, 7, 1), {("vlans", 7, "gates", 1): 1})
        self.changes(desk, ("gate", 1, 7, 2), {("vlans", 7, "gates", 1): 2})
        self.changes(desk, ("gate", 1, 7, 0), {("vlans", 7, "gates", 1): 0, **rows_gone((7, 2), (7, 12))})
        self.changes(desk, ("gate", 1, 7, 1), {("vlans", 7, "gates", 1): 1})

    def test_gate_of_a_vlan_that_the_side_is_not_in(self):
        self.changes(filled(), ("gate", 0, 8, 0), {("vlans", 8, "gates", 0): 0, **rows_gone((8, 1), (8, 11))})

    def test_gate_0_again_forgets_too(self):
        desk = filled()
        desk.switch.vlans[7].gates[1] = 0
        self.changes(desk, ("gate", 1, 7, 0), rows_gone((7, 2), (7, 12)))

    def test_lock(self):
        desk = filled()
        self.changes(desk, ("lock", 0, 65536, 1), {
            ("sides", 0, "most"): 65536, ("sides", 0, "lock_shuts"): 1, **gone_everywhere(1, 11)})
        desk.switch.vlans[8].rows[11] = row_of_kind(SECURE, 0)
        self.changes(desk, ("lock", 0, 1, 0), {
            ("sides", 0, "most"): 1, ("sides", 0, "lock_shuts"): 0, **rows_gone((8, 11))})

    def test_unlock_makes_secure_rows_learned(self):
        desk = filled()
        switch = desk.switch
        switch.sides[1].most, switch.sides[1].lock_shuts = 3, 1
        switch.vlans[7].age = 9
        expected = {("sides", 1, "most"): 0, ("sides", 1, "lock_shuts"): 0}
        for v, until in ((1, 340), (7, 49), (8, 340)):
            expected[("vlans", v, "rows", 12, "kind")] = LEARNED
            expected[("vlans", v, "rows", 12, "until")] = until
            expected[("vlans", v, "rows", 12, "moves_at")] = 40
        self.changes(desk, ("unlock", 1), expected)

    def test_unlock_near_the_clocks_end(self):
        desk = begun(("lock", 0, 1, 0))
        desk.switch.now = 2 ** 62
        desk.switch.vlans[1].rows[5] = row_of_kind(SECURE, 0)
        self.assertEqual(say(desk, "unlock", 0), [0])
        self.assertEqual(desk.switch.vlans[1].rows[5].until, 2 ** 62 + 300)

    def test_unlock_leaves_shuts(self):
        desk = filled()
        desk.switch.sides[0].most, desk.switch.sides[0].lock_shuts = 3, 1
        say(desk, "unlock", 0)
        self.assertEqual(desk.switch.vlans[1].shut, [1, 1, 0])

    def test_unshut(self):
        desk = filled()
        self.changes(desk, ("unshut", 1, 7), {("vlans", 7, "shut", 1): 0})
        self.assertEqual(say(desk, "unshut", 1, 7), [-2])
        self.assertEqual(say(desk, "unshut", 2, 7), [-2])
        self.changes(desk, ("unshut", 0, 8), {("vlans", 8, "shut", 0): 0})
        for v in (0, 9, -1, 4095, LEAST, GREATEST):
            self.assertEqual(say(desk, "unshut", 0, v), [-2], v)

    def test_storm(self):
        desk = filled()
        self.changes(desk, ("storm", 1, 0), {("sides", 1, "storm"): 0})
        self.changes(desk, ("storm", 1, 1000000000), {("sides", 1, "storm"): 1000000000})
        self.changes(desk, ("storm", 1, -1), {("sides", 1, "storm"): -1})


if __name__ == "__main__":
    unittest.main()
