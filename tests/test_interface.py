"""The interface: one list in, one list out, nothing kept and nothing changed."""

import unittest

from bridgebids.table import answers
from tests.asking import (CONTRACT, LEGALS, LONGEST, MADE, NUMBER, TABLE, TEXT, WAYS, auction, board, call,
                          decide, flat, look, named, nth, read, undo)


class Interface(unittest.TestCase):

    LINE = flat(auction(0, "1H") + [call(1, "1C"), decide(0), LEGALS, call(1, "2C"), TABLE, WAYS, undo(2), TABLE,
                                    call(3, "P"), decide(1), call(0, "P"), call(1, "P"), CONTRACT, call(0, "X"),
                                    LONGEST, NUMBER, nth(1, "105"), TEXT, look(0, "P P Q"), look(1, "P"), MADE,
                                    named(0, "H"), read(2, "1C P P P"), NUMBER, TEXT, MADE, named(0, "C"), nth(0, "0")])

    def test_counts_ahead_of_answers(self):
        self.assertEqual(answers([5]), [1, -3])
        self.assertEqual(answers([0, 0, 0]), [1, 0])
        self.assertEqual(answers([1, 2]), [3, 0, 1, 1])
        self.assertEqual(answers([0, 1, 0, 5, 2, 1, 3, 2, 2, 1, 2, 0, 0, 3, 0]),
                         [1, 0, 12, 0, 1, 0, 0, 0, 0, 0, 0, 0, 0, 0, 0, 2, 0, 0, 2, 0, 0, 2, 0, 2, 2, 0, 5])
        self.assertEqual(answers([0, 0, 0, 2, 0, 0, 2, 1, 0, 2, 2, 0, 2, 3, 0, 7, 6, 8, 2, 0, 0]),
                         [1, 0] + [2, 0, 0] * 4 + [1, 0, 1, 0, 2, 0, 49, 1, -4])
        self.assertEqual(answers([0, 4, 0, 5]), [1, -1, 1, -3])

    def test_counts_ahead_of_answers_with_texts(self):
        self.assertEqual(answers([9, 10, 12, 15, 16, 0, 0]), [1, -3] * 5)
        self.assertEqual(answers([11, 0, 0, 13, 0, 0, 14, 0, 0, 0, 12, 15, 9, 10, 16, 1, 4]),
                         [1, -12, 3, 0, 0, 0, 2, 0, 0, 1, 0, 1, 0, 2, 0, 319, 1, -10, 2, 0, 0])
        self.assertEqual(answers([11, 2, 1, 48, 14, 1, 2, 4, 49, 67, 32, 88, 12, 15, 16, 1, 0]),
                         [8, 0, 80, 32, 80, 32, 80, 32, 80, 2, 0, 2, 5, 0, 49, 67, 32, 88, 5, 0, 1, 3, 2, 1, 2, 0, 2])
        self.assertEqual(answers([14, 0, 0, 7, 80, 32, 80, 32, 80, 32, 80, 10, 9, 12, 13, 3, 3, 80, 32, 32]),
                         [2, 0, 4, 2, 0, 48, 2, 0, 0, 8, 0, 80, 32, 80, 32, 80, 32, 80, 3, 0, 1, 2])

    def test_text_that_is_refused_is_gone_past(self):
        self.assertEqual(answers([11, 4, 2, 49, 48, 13, 0, 3, 5, 256, 0, 14, -1, 0, 3, 0, 0, 0, 5]),
                         [1, -1, 1, -1, 1, -1, 1, -3])
        self.assertEqual(answers([14, 0, 0, 3, 0, 0, 0, 5, 13, 0, 2, 11, 12, 5]), [1, -12, 1, -3, 3, 0, 1, 0, 1, -3])

    def test_longest_texts(self):
        self.assertEqual(answers([11, 0, 60] + [57] * 60 + [13, 0, 1000] + [80, 32] * 500
                                 + [14, 0, 0, 1000] + [80, 32] * 500 + [13, 1, 1000] + [-1] * 1000 + [5]),
                         [1, -13, 3, 0, 3, 8, 1, -12, 1, -1, 1, -3])

    def test_whole_numbers_in_a_list(self):
        given = answers(self.LINE)
        self.assertIs(type(given), list)
        for value in given:
            self.assertIs(type(value), int)

    def test_keeps_nothing(self):
        first = answers(self.LINE)
        self.assertEqual(answers([5]), [1, -3])
        self.assertEqual(answers([0, 2, 0, 4, 1]), [1, 0, 1, -14])
        self.assertEqual(answers(self.LINE), first)

    def test_what_is_given_back_is_free(self):
        first = answers([0, 0, 0, 6])
        kept = list(first)
        first.clear()
        self.assertEqual(answers([0, 0, 0, 6]), kept)

    def test_argument_stays(self):
        line = list(self.LINE)
        answers(line)
        self.assertEqual(line, self.LINE)

    def test_four_hundred_calls(self):
        line = flat([board(1)] + [call(1, "P"), decide(0)] * 160 + [WAYS] * 79)
        given = answers(line)
        self.assertEqual(len(given), 4 + 320 * 3 + 79 * 50)


if __name__ == "__main__":
    unittest.main()
