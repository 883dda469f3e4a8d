"""Points 0 and 1: deal and board, and the refusals -1 and -3 that come ahead of all else."""

import unittest

from tests.asking import (CONTRACT, FAR, LEGALS, LONGEST, MADE, NUMBER, TABLE, TEXT, WAYS, ask, auction, board, call,
                          deal, decide, last, told, undo)


class Deal(unittest.TestCase):

    def test_answers_nothing_more(self):
        for dealer in range(4):
            for vulnerability in range(4):
                self.assertEqual(ask(deal(dealer, vulnerability)), [[0]])

    def test_dealer_is_on_turn(self):
        for dealer in range(4):
            self.assertEqual(last(deal(dealer), TABLE), told(dealer))

    def test_what_was_before_is_gone(self):
        before = [deal(0), call(0, "1H"), call(1, "1C"), decide(0), call(2, "1D"), decide(0), call(3, "P")]
        self.assertEqual(last(*before, TABLE), told(1, "1H", waits=2, mend=1, held=(2, 0, 0, 0)))
        self.assertEqual(last(*before, deal(3), TABLE), told(3))
        self.assertEqual(last(*before, deal(3), undo(1)), [-14])
        self.assertEqual(last(*before, deal(3), undo(0)), [0])
        self.assertEqual(last(*before, deal(3), decide(1)), [-7])

    def test_out_of_range(self):
        for dealer, vulnerability in ((-1, 0), (4, 0), (0, -1), (0, 4), (FAR, 0), (0, -FAR), (-FAR, FAR)):
            self.assertEqual(ask(deal(dealer, vulnerability)), [[-1]])

    def test_refused_deal_keeps_what_was(self):
        self.assertEqual(last(*auction(1, "P 1C"), deal(4, 0), deal(0, 4), TABLE), told(3, "1C"))
        self.assertEqual(last(deal(0, 4), TABLE), [-3])


class Board(unittest.TestCase):

    def test_first_sixteen(self):
        dealers = [0, 1, 2, 3] * 4
        vulnerabilities = [0, 1, 2, 3, 1, 2, 3, 0, 2, 3, 0, 1, 3, 0, 1, 2]
        for n in range(1, 17):
            self.assertEqual(ask(board(n)), [[0, dealers[n - 1], vulnerabilities[n - 1]]])
            self.assertEqual(ask(board(n + 16)), ask(board(n)))

    def test_greatest(self):
        self.assertEqual(ask(board(1000000000)), [[0, 3, 2]])
        self.assertEqual(ask(board(999999999)), [[0, 2, 1]])

    def test_begins_an_auction(self):
        self.assertEqual(last(*auction(0, "1C X"), board(3), TABLE), told(2))
        self.assertEqual(last(*auction(0, "1C X"), board(3), undo(1)), [-14])

    def test_out_of_range(self):
        for n in (0, -1, 1000000001, FAR, -FAR):
            self.assertEqual(ask(board(n)), [[-1]])

    def test_refused_board_keeps_what_was(self):
        self.assertEqual(last(*auction(1, "P 1C"), board(0), TABLE), told(3, "1C"))
        self.assertEqual(last(board(0), TABLE), [-3])


class NoAuction(unittest.TestCase):

    def test_refused(self):
        for row in (call(0, "P"), decide(0), decide(1), undo(0), undo(400), TABLE, LEGALS, CONTRACT, WAYS, LONGEST,
                    NUMBER, TEXT, MADE, (16, 0, 0), (16, 1, 4)):
            self.assertEqual(ask(row), [[-3]])

    def test_range_is_asked_first(self):
        wrong = [(2, -1, 0), (2, 4, 0), (2, 0, -1), (2, 0, 38), (2, FAR, 0), (2, 0, -FAR),
                 (3, -1), (3, 2), (3, FAR), (4, -1), (4, 401), (4, -FAR), (16, -1, 0), (16, 2, 0),
                 (16, 0, -1), (16, 0, 5)]
        for row in wrong:
            self.assertEqual(ask(row), [[-1]])
            self.assertEqual(last(*auction(0, "P P P P"), row), [-1])
            self.assertEqual(last(deal(0), call(1, "P"), row), [-1])

    def test_begun_behind_a_refusal(self):
        self.assertEqual(ask(TABLE, deal(2), TABLE), [[-3], [0], told(2)])


if __name__ == "__main__":
    unittest.main()
