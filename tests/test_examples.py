"""The examples of the document, as they stand."""

import unittest

from helper import ask
from learnswitch.desk import answers


class Examples(unittest.TestCase):

    def test_heard_on_both_sides(self):
        told = ask(
            ("begin", 2, 4, 300, 0), ("frame", 0, 2 ** 48 - 1, 5, -1, 0),
            ("frame", 1, 5, 7, -1, 0), ("frame", 0, 5, 5, -1, 0))
        self.assertEqual(told, [[0], [0, 1, 1, -1, 0, 0, -1], [0, 1, 0, -1, 0, 0, -1], [0, 0, 0, -1]])

    def test_a_tag_and_a_rank(self):
        told = ask(
            ("begin", 2, 4, 300, 0), ("native", 1, 0), ("pair", 1, 9, 1), ("rank", 0, 6), ("frame", 0, 8, 5, -1, 0))
        self.assertEqual(told, [[0], [0], [0], [0], [0, 1, 1, 9, 6, 0, -1]])

    def test_a_row_that_is_over(self):
        told = ask(
            ("begin", 1, 1, 10, 0), ("frame", 0, 8, 5, -1, 0), ("tick", 9), ("look", 1, 5), ("tick", 1), ("look", 1, 5))
        self.assertEqual(told, [[0], [0, 0, 0, -1], [0], [0, 0, 0, 1], [0], [-3]])

    def test_one_of_them_as_the_list_of_numbers_that_it_is(self):
        calls = [0, 1, 1, 10, 0, 26, 0, 8, 5, -1, 0, 25, 9, 27, 1, 5, 25, 1, 27, 1, 5]
        self.assertEqual(answers(calls), [1, 0, 4, 0, 0, 0, -1, 1, 0, 4, 0, 0, 0, 1, 1, 0, 1, -3])


if __name__ == "__main__":
    unittest.main()
