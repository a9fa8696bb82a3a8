"""The calls 23 to 25: mirror, watch, tick."""

import unittest

from helper import CLOCK_END, GREATEST, GROUP, LEAST, NO_SIDES, Case, frame, out


class MirrorCall(Case):

    def test_answers(self):
        self.takes([("mirror", side) for side in (-1, 0, 2)])
        self.takes([("mirror", 0), ("mirror", 1), ("mirror", -1)], ("mirror", 0))
        self.refuses(-1, [("mirror", side) for side in (-2, 3, 64, LEAST, GREATEST)])

    def test_nothing_comes_in_and_nothing_goes_out_there(self):
        self.tells(
            ("mirror", 2), (frame(0, 9, 5), out(1)), (frame(2, 9, 6), [-4]), ("mirror", 1), (frame(0, 9, 5), out(2)),
            (frame(2, 9, 6), out(0)), ("mirror", -1), (frame(0, 9, 5), out(1, 2)), (frame(1, 9, 7), out(0, 2)))

    def test_rows_at_it_of_every_vlan_are_forgotten(self):
        self.tells(
            ("vlan", 7), ("pair", 0, 70, 7), ("pair", 1, 70, 7), ("lock", 0, 1, 0),
            (frame(0, 9, 5), out(1, 2)), (frame(1, 9, 6), out(0, 2)),
            (frame(0, 9, 5, 70), out((1, 70, 0))), (frame(1, 9, 6, 70), out((0, 70, 0))),
            ("fix", 1, 7, 1), ("fix", 1, 8, -1), ("join", 1, GROUP, 1),
            ("mirror", 1), (("rows", 1), [0, 3, 5, 1, 0, 7, 2, 1, 8, 2, -1, 1, GROUP, 1, 1]),
            (("rows", 7), [0, 1, 5, 1, 0, 0]), ("mirror", -1), (("rows", 7), [0, 1, 5, 1, 0, 0]),
            ("mirror", 0), (("rows", 1), [0, 2, 7, 2, 1, 8, 2, -1, 1, GROUP, 1, 1]), (("rows", 7), [0, 0, 0]))

    def test_a_refusal_leaves_the_mirror_and_the_rows(self):
        self.tells(("mirror", 2), (frame(0, 9, 5), out(1)), (("mirror", 3), [-1]), (frame(0, 9, 5), out(1)),
                   (("look", 1, 5), [0, 0, 0, 300]))


class WatchCall(Case):

    def test_answers(self):
        self.takes([("watch", side, d) for side in (0, 2) for d in range(4)])
        self.refuses(-1, [("watch", side, 1) for side in NO_SIDES])
        self.refuses(-2, [("watch", 0, d) for d in (-1, 4, LEAST, GREATEST)])
        self.refuses(-1, [("watch", 3, 4)])

    def test_it_is_the_sides_in_place_of_what_was(self):
        for first in range(4):
            for d in range(4):
                self.tells(
                    ("watch", 1, first), ("watch", 1, d), (("side", 1), [0, 1, 0, 0, 0, 0, -1, d, 0, 1, 1]),
                    (("side", 0), [0, 1, 0, 0, 0, 0, -1, 0, 0, 1, 0]), (("watch", 1, 4), [-2]),
                    (("side", 1), [0, 1, 0, 0, 0, 0, -1, d, 0, 1, 1]))


class TickCall(Case):

    def test_edges(self):
        self.takes([("tick", n) for n in (1, 2, CLOCK_END - 1, CLOCK_END)])
        self.refuses(-1, [("tick", n) for n in (-1, 0, CLOCK_END + 1, LEAST, GREATEST)])

    def test_the_clocks_end(self):
        self.tells(("tick", CLOCK_END), (("tick", 1), [-2]), (("tick", CLOCK_END), [-2]), (("tick", 0), [-1]),
                   (("tick", CLOCK_END + 1), [-1]))
        self.tells(("tick", 5), (("tick", CLOCK_END), [-2]), (("tick", CLOCK_END - 4), [-2]),
                   ("tick", CLOCK_END - 6), ("tick", 1), (("tick", 1), [-2]))

    def test_begin_sets_the_clock_back(self):
        self.tells(("tick", CLOCK_END), ("begin", 3, 4, 300, 0), ("tick", CLOCK_END))

    def test_learned_rows_go_when_they_are_over(self):
        self.tells(
            ("vlan", 7), ("native", 2, 7), ("age", 7, 100), (frame(0, 9, 5), out(1)), (frame(2, 9, 6), out()),
            ("tick", 50), (frame(1, 9, 8), out(0)), ("tick", 49), (("look", 7, 6), [0, 0, 2, 1]),
            ("tick", 1), (("look", 7, 6), [-3]), (("look", 1, 5), [0, 0, 0, 200]), (("look", 1, 8), [0, 0, 1, 250]),
            ("tick", 201), (("rows", 1), [0, 1, 8, 0, 1, 0]), ("tick", 49), (("rows", 1), [0, 0, 0]))

    def test_the_others_stay(self):
        self.tells(
            ("lock", 0, 1, 0), (frame(0, 9, 5), out(1, 2)), ("fix", 1, 6, 1), ("join", 1, GROUP, 2),
            ("tick", CLOCK_END), (("rows", 1), [0, 2, 5, 1, 0, 6, 2, 1, 1, GROUP, 1, 2]))

    def test_what_is_heard_again_stays_longer(self):
        self.tells((frame(0, 9, 5), out(1, 2)), ("tick", 299), (frame(0, 9, 5), out(1, 2)), ("tick", 299),
                   (("look", 1, 5), [0, 0, 0, 1]))

    def test_all_spread_counts_are_0(self):
        two = [("vlan", 7), ("pair", 0, 70, 7), ("pair", 1, 70, 7), ("storm", 0, 1), ("storm", 1, 1)]
        spread = [(frame(0, 9, 5), out(1, 2)), (frame(1, 9, 6), out(0, 2)), (frame(0, 9, 5, 70), out((1, 70, 0))),
                  (frame(1, 9, 6, 70), out((0, 70, 0)))]
        dropped = [(call, [-16]) for call, answer in spread]
        self.tells(*two, *spread, *dropped, ("tick", 1), *spread, *dropped)

    def test_a_refused_tick_does_nothing(self):
        self.tells(
            ("storm", 0, 1), (frame(0, 9, 5), out(1, 2)), (("tick", 0), [-1]), (("tick", CLOCK_END + 1), [-1]),
            (frame(0, 9, 5), [-16]), (("look", 1, 5), [0, 0, 0, 300]))
        self.tells(
            ("tick", 1), ("storm", 0, 1), (frame(0, 9, 5), out(1, 2)), (("tick", CLOCK_END), [-2]),
            (frame(0, 9, 5), [-16]), (("look", 1, 5), [0, 0, 0, 300]))


if __name__ == "__main__":
    unittest.main()
