"""What a switch learns from a frame, row by row of the document."""

import unittest

from helper import GROUP, START, Case, ask, frame, out

TO = 99


def heard(port, source, tag=-1):
    """A step: a frame that is spread, so that it passes over both other ports."""
    return frame(port, TO, source, tag), out(*[other for other in range(3) if other != port])


def dropped(reason, port, source):
    return frame(port, TO, source), [-reason]


def look(hw, *answer):
    return ("look", 1, hw), [0, *answer]


def gone(hw):
    return ("look", 1, hw), [-3]


def counts(size, moves=0, missed=0, breaches=0):
    return ("vcounts", 1), [0, size, moves, missed, breaches, 300]


def begin(ports=3, cap=100, hold=20):
    return ("begin", ports, cap, 300, hold)


class NoRow(Case):

    def test_a_learned_row_is_made(self):
        self.tells(("tick", 7), heard(1, 5), look(5, 0, 1, 300), counts(1))

    def test_it_may_move_at_once(self):
        self.tells(heard(0, 5), heard(1, 5), look(5, 0, 1, 300), counts(1, moves=1))

    def test_at_the_cap_it_is_missed_and_goes_on(self):
        self.tells(heard(0, 5), ("join", 1, GROUP, 0), heard(1, 6), gone(6), heard(2, 6), gone(6), counts(2, missed=2),
                   start=begin(cap=2))

    def test_just_below_the_cap(self):
        self.tells(heard(0, 5), ("join", 1, GROUP, 0), heard(1, 6), look(6, 0, 1, 300), counts(3), start=begin(cap=3))

    def test_one_missed_is_learned_when_there_is_room(self):
        self.tells(heard(0, 5), heard(1, 6), ("tick", 300), heard(1, 6), look(6, 0, 1, 300), counts(1, missed=1),
                   start=begin(cap=1))

    def test_the_row_is_its_vlans(self):
        self.tells(
            ("vlan", 7), ("pair", 0, 70, 7), ("pair", 1, 71, 7), (frame(0, TO, 5, 70), out((1, 71, 0))),
            (("look", 7, 5), [0, 0, 0, 300]), gone(5), (frame(1, 5, 6), out(0, 2)),
            (frame(1, 5, 6, 71), out((0, 70, 0))), (("look", 7, 6), [0, 0, 1, 300]), look(6, 0, 1, 300))

    def test_the_cap_is_each_vlans(self):
        self.tells(("vlan", 7), ("native", 2, 7), (frame(0, TO, 5), out(1)), (frame(2, TO, 5), out()), counts(1),
                   (("vcounts", 7), [0, 1, 0, 0, 0, 300]), start=begin(cap=1))

    def test_any_of_a_sides_ports_will_do(self):
        self.tells(("plug", 0, 1), (frame(0, TO, 5), out(2)), look(5, 0, 1, 300), (frame(1, TO, 5), out(2)),
                   counts(1))


class NoRowAndLocked(Case):

    def test_secure_rows_are_made_up_to_the_most(self):
        self.tells(
            ("lock", 0, 2, 0), heard(0, 5), heard(0, 6), look(5, 1, 0, 0), look(6, 1, 0, 0), dropped(13, 0, 7), gone(7),
            heard(0, 5), heard(0, 6), counts(2, breaches=1), ("tick", 10 ** 9), look(5, 1, 0, 0))

    def test_at_the_cap_it_is_a_breach(self):
        self.tells(heard(1, 5), ("lock", 0, 2, 1), dropped(13, 0, 6), gone(6), counts(1, breaches=1),
                   dropped(9, 0, 6), start=begin(cap=1))
        self.tells(("join", 1, GROUP, 1), ("lock", 0, 2, 0), heard(0, 5), dropped(13, 0, 6), counts(2, breaches=1),
                   start=begin(cap=2))

    def test_only_secure_rows_at_this_side_of_this_vlan_count(self):
        self.tells(
            ("vlan", 7), ("pair", 0, 70, 7), ("fix", 1, 10, 0), ("lock", 0, 1, 0), ("lock", 1, 2, 0), heard(1, 6),
            heard(1, 7), (frame(0, TO, 8, 70), out()), heard(0, 5), look(5, 1, 0, 0), dropped(13, 0, 9))

    def test_a_row_that_is_fixed_in_its_place_makes_room(self):
        self.tells(("lock", 0, 1, 0), heard(0, 5), dropped(13, 0, 6), ("fix", 1, 5, 0), heard(0, 6), heard(0, 5),
                   look(6, 1, 0, 0))

    def test_a_row_that_was_forgotten_is_none(self):
        self.tells(heard(0, 5), ("lock", 0, 1, 0), gone(5), heard(0, 5), look(5, 1, 0, 0), counts(1))


class FixedAndSecure(Case):

    def test_a_fixed_row_stays_as_it_is(self):
        self.tells(
            ("fix", 1, 5, 0), heard(0, 5), look(5, 2, 0, 0), dropped(10, 1, 5), look(5, 2, 0, 0), ("fix", 1, 6, -1),
            dropped(10, 0, 6), dropped(10, 2, 6), look(6, 2, -1, 0), counts(2))

    def test_a_fixed_row_at_a_locked_side_takes_no_room(self):
        self.tells(("fix", 1, 5, 0), ("lock", 0, 1, 1), heard(0, 5), heard(0, 6), heard(0, 5), look(5, 2, 0, 0),
                   dropped(13, 0, 7))

    def test_a_secure_row_stays_as_it_is(self):
        self.tells(
            ("lock", 0, 1, 1), heard(0, 5), heard(0, 5), look(5, 1, 0, 0), dropped(11, 1, 5), look(5, 1, 0, 0),
            ("lock", 2, 9, 1), dropped(11, 2, 5), counts(1), ("tick", 1000), dropped(11, 1, 5))

    def test_at_the_cap_rows_that_are_there_go_on(self):
        self.tells(("fix", 1, 5, 0), heard(0, 5), counts(1), start=begin(cap=1))
        self.tells(("lock", 0, 1, 1), heard(0, 5), heard(0, 5), counts(1), start=begin(cap=1))
        self.tells(heard(0, 5), heard(0, 5), heard(1, 5), counts(1, moves=1), start=begin(cap=1))


class LearnedHere(Case):

    def test_it_stays_anew(self):
        self.tells(heard(0, 5), ("tick", 100), look(5, 0, 0, 200), heard(0, 5), look(5, 0, 0, 300), counts(1))

    def test_a_shorter_age_shortens_it(self):
        self.tells(heard(0, 5), ("age", 1, 9), heard(0, 5), look(5, 0, 0, 9))

    def test_the_time_before_which_it_does_not_move_is_as_it_was(self):
        self.tells(heard(0, 5), heard(1, 5), ("tick", 19), heard(1, 5), dropped(12, 0, 5), ("tick", 1), heard(0, 5),
                   look(5, 0, 0, 300), counts(1, moves=2))

    def test_one_that_never_moved_may_still_move_at_once(self):
        self.tells(heard(0, 5), ("tick", 5), heard(0, 5), heard(1, 5), counts(1, moves=1))


class LearnedElsewhere(Case):

    def test_it_does_not_move_before_its_time(self):
        self.tells(
            ("tick", 50), heard(0, 5), heard(1, 5), dropped(12, 0, 5), dropped(12, 2, 5), look(5, 0, 1, 300),
            ("tick", 19), dropped(12, 0, 5), look(5, 0, 1, 281), counts(1, moves=1), ("tick", 1), heard(2, 5),
            look(5, 0, 2, 300), counts(1, moves=2), ("tick", 19), dropped(12, 0, 5), ("tick", 1), heard(0, 5))

    def test_a_hold_of_0_holds_nothing(self):
        self.tells(heard(0, 5), heard(1, 5), heard(0, 5), heard(2, 5), look(5, 0, 2, 300), counts(1, moves=3),
                   start=begin(hold=0))

    def test_what_moved_and_was_forgotten_is_new(self):
        self.tells(heard(0, 5), heard(1, 5), (("flush", 1, 1), [1]), heard(0, 5), heard(1, 5), counts(1, moves=2))

    def test_it_becomes_secure_at_a_locked_side(self):
        self.tells(
            heard(0, 5), ("lock", 1, 1, 1), heard(1, 5), look(5, 1, 1, 0), counts(1, moves=1), dropped(11, 0, 5),
            ("tick", 1000), look(5, 1, 1, 0), heard(0, 6), dropped(13, 1, 6), look(6, 0, 0, 300),
            counts(2, moves=1, breaches=1), dropped(9, 1, 5))

    def test_it_becomes_secure_at_the_cap_too(self):
        self.tells(heard(0, 5), ("lock", 1, 1, 0), heard(1, 5), look(5, 1, 1, 0), counts(1, moves=1),
                   start=begin(cap=1))

    def test_a_breach_leaves_the_row(self):
        self.tells(
            ("lock", 1, 1, 0), heard(1, 6), heard(0, 5), ("tick", 10), dropped(13, 1, 5), look(5, 0, 0, 290),
            counts(2, breaches=1), (("unshut", 1, 1), [-2]), heard(2, 5), counts(2, moves=1, breaches=1))

    def test_a_held_row_does_not_become_secure(self):
        self.tells(heard(0, 5), heard(2, 5), ("lock", 1, 1, 0), dropped(12, 1, 5), look(5, 0, 2, 300), ("tick", 20),
                   heard(1, 5), look(5, 1, 1, 0), counts(1, moves=2))

    def test_each_vlan_has_its_own_rows_and_moves(self):
        self.tells(
            ("vlan", 7), ("native", 2, 7), (frame(0, TO, 5), out(1)), (frame(2, TO, 5), out()), counts(1),
            (("vcounts", 7), [0, 1, 0, 0, 0, 300]), (frame(1, TO, 5), out(0)), counts(1, moves=1),
            (("look", 7, 5), [0, 0, 2, 300]))


class BehindLearning(unittest.TestCase):

    def test_a_gate_of_1_learns_each_way(self):
        told = ask(
            START, frame(1, TO, 5), ("gate", 0, 1, 1), frame(0, TO, 5), frame(0, TO, 6), ("look", 1, 5), ("look", 1, 6),
            ("lock", 0, 1, 1), frame(0, TO, 7), ("look", 1, 7), frame(0, TO, 8), frame(0, TO, 7))
        self.assertEqual(told[3:7], [[-14], [-14], [0, 0, 0, 300], [0, 0, 0, 300]])
        self.assertEqual(told[8:], [[-14], [0, 1, 0, 0], [-13], [-9]])

    def test_where_it_is_for_is_asked_behind_learning(self):
        told = ask(START, frame(1, TO, 5), frame(0, 5, 5), frame(0, 6, 6), ("storm", 0, 0), frame(0, 7, 7))
        self.assertEqual(told[2:], [out(), out(), [0], out()])


if __name__ == "__main__":
    unittest.main()
