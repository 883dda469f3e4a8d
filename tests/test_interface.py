"""The interface: one list in, one list out, nothing kept and nothing changed."""

import unittest

from bridgebids.table import answers
from tests.asking import CONTRACT, LEGALS, TABLE, WAYS, auction, board, call, deal, decide, flat, undo


class Interface(unittest.TestCase):

    LINE = flat(auction(0, "1H") + [call(1, "1C"), decide(0), LEGALS, call(1, "2C"), TABLE, WAYS, undo(2), TABLE,
                                    call(3, "P"), decide(1), call(0, "P"), call(1, "P"), CONTRACT, call(0, "X")])

    def test_counts_ahead_of_answers(self):
        self.assertEqual(answers([5]), [1, -3])
        self.assertEqual(answers([0, 0, 0]), [1, 0])
        self.assertEqual(answers([1, 2]), [3, 0, 1, 1])
        self.assertEqual(answers([0, 1, 0, 5, 2, 1, 3, 2, 2, 1, 2, 0, 0, 3, 0]),
                         [1, 0, 12, 0, 1, 0, 0, 0, 0, 0, 0, 0, 0, 0, 0, 2, 0, 0, 2, 0, 0, 2, 0, 2, 2, 0, 5])
        self.assertEqual(answers([0, 0, 0, 2, 0, 0, 2, 1, 0, 2, 2, 0, 2, 3, 0, 7, 6, 8, 2, 0, 0]),
                         [1, 0] + [2, 0, 0] * 4 + [1, 0, 1, 0, 2, 0, 49, 1, -4])
        self.assertEqual(answers([0, 4, 0, 5]), [1, -1, 1, -3])

    def test_whole_numbers_in_a_list(self):
        given = answers(self.LINE)
        self.assertIs(type(given), list)
        for value in given:
            self.assertIs(type(value), int)

    def test_keeps_nothing(self):
        first = answers(self.LINE)
        self.assertEqual(answers([5]), [1, -3])
        self.assertEqual(answers([0, 2, 0, 4, 1]), [1, 0, 1, -14])
        self.assertEqual(answers(self.LINE), first)

    def test_what_is_given_back_is_free(self):
        first = answers([0, 0, 0, 6])
        kept = list(first)
        first.clear()
        self.assertEqual(answers([0, 0, 0, 6]), kept)

    def test_argument_stays(self):
        line = list(self.LINE)
        answers(line)
        self.assertEqual(line, self.LINE)

    def test_four_hundred_calls(self):
        line = flat([board(1)] + [call(1, "P"), decide(0)] * 160 + [WAYS] * 79)
        given = answers(line)
        self.assertEqual(len(given), 4 + 320 * 3 + 79 * 50)


if __name__ == "__main__":
    unittest.main()
