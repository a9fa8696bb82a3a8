"""The interface: how calls stand in the list, and answers in the other."""

import unittest

from helper import CLOCK_END, EVERYBODY, GREATEST, GROUP, LEAST, LENGTHS, NAMES, START, ask, flat
from learnswitch.desk import answers

MANY = flat([
    ("vlan", 5), ("begin", 0, 1, 1, 0), START, ("vlan", 5), ("vlan", 5), ("pair", 1, 9, 5),
    ("novlan", 5), ("unpair", 1, 9), ("novlan", 5), ("plug", 0, 1), ("unplug", 0), ("unplug", 0),
    ("frame", 1, 8, 7, -1, 0), ("look", 1, 7), ("vcounts", 1), ("flush", 0, -1), ("rows", 1), ("tick", 0),
])
MANY_ANSWERS = [
    1, -20, 1, -1, 1, 0, 1, 0, 1, -2, 1, 0, 1, -2, 1, 0, 1, 0, 1, 0, 1, 0, 1, -2,
    7, 0, 1, 2, -1, 0, 0, -1, 4, 0, 0, 1, 300, 6, 0, 1, 0, 0, 0, 300, 1, 1, 3, 0, 0, 0, 1, -1,
]


class Answers(unittest.TestCase):

    def test_each_answer_stands_behind_its_length_in_order(self):
        self.assertEqual(answers(list(MANY)), MANY_ANSWERS)

    def test_one_call_alone(self):
        self.assertEqual(answers([0, 1, 1, 1, 0]), [1, 0])
        self.assertEqual(answers([0, 0, 1, 1, 0]), [1, -1])
        self.assertEqual(answers([7, 0]), [1, -20])

    def test_the_list_handed_in_stays_as_it_was(self):
        calls = list(MANY)
        answers(calls)
        self.assertEqual(calls, MANY)

    def test_the_list_handed_in_is_never_written_to(self):
        class Sealed(list):
            def refuse(self, *given):
                raise AssertionError("the list was changed")
            append = extend = insert = pop = remove = clear = reverse = sort = refuse
            __setitem__ = __delitem__ = __iadd__ = __imul__ = refuse
        self.assertEqual(answers(Sealed(MANY)), MANY_ANSWERS)

    def test_nothing_is_kept_from_one_time_to_the_next(self):
        self.assertEqual(answers(list(MANY)), answers(list(MANY)))
        answers(flat([START, ("vlan", 5)]))
        self.assertEqual(answers(flat([("vlan", 5)])), [1, -20])
        self.assertEqual(answers(flat([START, ("vlan", 5)])), [1, 0, 1, 0])

    def test_what_is_given_back_is_a_new_list_of_ints(self):
        first = answers(list(MANY))
        self.assertIs(type(first), list)
        self.assertEqual({type(number) for number in first}, {int})
        first.clear()
        self.assertEqual(answers(list(MANY)), MANY_ANSWERS)

    def test_no_call_raises_whatever_its_numbers(self):
        for name in NAMES:
            for number in (0, 1, -1, 2, 4095, EVERYBODY, GROUP, CLOCK_END, LEAST, GREATEST):
                told = ask(START, (name,) + (number,) * LENGTHS[name], ("counts", 0))
                self.assertEqual(len(told), 3, name)
                self.assertEqual(len(told[2]), 18, name)

    def test_four_hundred_calls(self):
        calls = [("begin", 64, 65536, 1000000, 1000000)]
        calls += [("plug", number % 64, number // 8 % 8) for number in range(399)]
        told = ask(*calls)
        self.assertEqual(len(told), 400)
        self.assertEqual(told[0], [0])


class NoSwitch(unittest.TestCase):

    def test_each_other_call_before_begin(self):
        for name in NAMES[1:]:
            for number in (0, 1, LEAST, GREATEST):
                call = (name,) + (number,) * LENGTHS[name]
                self.assertEqual(ask(call, call), [[-20], [-20]], call)

    def test_each_other_call_behind_a_refused_begin(self):
        for name in NAMES[1:]:
            call = (name,) + (1,) * LENGTHS[name]
            self.assertEqual(ask(("begin", 65, 1, 1, 0), call), [[-1], [-20]], call)

    def test_a_call_before_begin_does_nothing(self):
        self.assertEqual(ask(("vlan", 5), START, ("vlan", 5)), [[-20], [0], [0]])


class Begin(unittest.TestCase):

    def test_the_edges_that_are_taken(self):
        for given in ((1, 1, 1, 0), (64, 65536, 1000000, 1000000)):
            self.assertEqual(ask(("begin",) + given), [[0]], given)

    def test_what_is_refused(self):
        wrong = ((0, 65, -1), (0, 65537, -1), (0, 1000001, -1), (-1, 1000001))
        for place in range(4):
            for number in wrong[place] + (LEAST, GREATEST):
                given = [2, 4, 300, 0]
                given[place] = number
                self.assertEqual(ask(("begin", *given)), [[-1]], given)

    def test_so_many_ports_and_sides(self):
        for ports in (1, 2, 63, 64):
            told = ask(("begin", ports, 1, 1, 0), ("link", ports - 1, 1), ("link", ports, 1),
                       ("apart", ports - 1, 1), ("apart", ports, 1))
            self.assertEqual(told, [[0], [0], [-1], [0], [-1]], ports)

    def test_port_i_is_side_is(self):
        told = ask(("begin", 20, 1, 1, 0), *[("unplug", port) for port in range(9)],
                   *[("plug", port, 19) for port in range(8)])
        self.assertEqual(told[-8:], [[0]] * 7 + [[-3]])

    def test_each_side_is_in_vlan_1_untagged(self):
        for side in range(3):
            self.assertEqual(ask(START, ("native", side, 1), ("pair", side, 9, 1)), [[0], [0], [-5]])

    def test_a_refused_begin_leaves_the_switch_as_it_is(self):
        told = ask(START, ("vlan", 7), ("native", 2, 7), ("lock", 1, 1, 0), ("begin", 65, 1, 1, 0),
                   ("vlan", 7), ("novlan", 7), ("unlock", 1))
        self.assertEqual(told[4:], [[-1], [-2], [-2], [0]])

    def test_a_second_begin_makes_all_new(self):
        told = ask(START, ("vlan", 7), ("native", 2, 7), ("lock", 1, 1, 0), ("unplug", 0), ("pair", 0, 4, 7),
                   ("begin", 4, 1, 1, 0),
                   ("novlan", 7), ("pair", 2, 4, 1), ("unlock", 1), ("unpair", 0, 4), ("unplug", 0), ("link", 3, 0))
        self.assertEqual(told[6:], [[0], [-1], [-5], [-2], [-2], [0], [0]])


if __name__ == "__main__":
    unittest.main()
