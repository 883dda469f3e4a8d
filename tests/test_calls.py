"""Points 2, 3 and 4: call, decide and undo, and the order of their refusals."""

import unittest

from tests.asking import LEGALS, TABLE, ask, auction, call, deal, decide, last, told, undo

FULL = 320


def doubles(many):
    """Calls that are withdrawn at once: each bars seat 2 and changes nothing else."""
    return [call(0, "X")] * many


class Call(unittest.TestCase):

    def test_what_happened(self):
        self.assertEqual(ask(deal(0), call(0, "1H"), call(1, "X"), call(2, "XX"), call(3, "P"), call(0, "7N")),
                         [[0]] + [[0, 0]] * 5)
        self.assertEqual(last(*auction(0, "1H"), call(1, "1D")), [0, 1])
        self.assertEqual(last(*auction(0, "1H"), call(1, "1H")), [0, 1])
        self.assertEqual(last(*auction(0, "1H"), call(2, "1S")), [0, 2])
        self.assertEqual(last(*auction(0, "1H"), call(1, "XX")), [0, 3])

    def test_first_and_last_bid(self):
        self.assertEqual(last(deal(1), call(1, "1C")), [0, 0])
        self.assertEqual(last(deal(1), call(1, "7N")), [0, 0])
        self.assertEqual(last(deal(1), call(1, "7N"), call(2, "7N")), [0, 1])

    def test_over(self):
        for seat in range(4):
            for text in ("P", "X", "XX", "1C", "7N"):
                self.assertEqual(last(*auction(0, "P P P P"), call(seat, text)), [-4])
                self.assertEqual(last(*auction(0, "P 1C P P P"), call(seat, text)), [-4])

    def test_not_over_yet(self):
        self.assertEqual(last(*auction(0, "P P P"), call(3, "P")), [0, 0])
        self.assertEqual(last(*auction(0, "P P P"), call(3, "1C")), [0, 0])
        self.assertEqual(last(*auction(0, "1C X P P"), call(0, "XX")), [0, 0])

    def test_waits(self):
        low = auction(0, "1H") + [call(1, "1D")]
        early = auction(0, "1H") + [call(3, "P")]
        for seat in range(4):
            for text in ("P", "X", "1D", "2C"):
                self.assertEqual(last(*low, call(seat, text)), [-5])
                self.assertEqual(last(*early, call(seat, text)), [-5])


class OrderAtCall(unittest.TestCase):

    def test_over_ahead_of_barred(self):
        self.assertEqual(last(deal(0), *doubles(1), *auction(0, "P P P P")[1:], call(2, "1C")), [-4])

    def test_over_ahead_of_full(self):
        passed = auction(0, "P P P P")
        self.assertEqual(last(deal(0), *doubles(FULL - 4), *passed[1:], call(0, "P")), [-4])

    def test_waits_ahead_of_barred(self):
        self.assertEqual(last(deal(0), *doubles(1), call(1, "P"), call(2, "1C")), [-5])

    def test_waits_ahead_of_full(self):
        self.assertEqual(last(deal(0), *doubles(FULL - 1), call(1, "P"), call(0, "P")), [-5])

    def test_barred_ahead_of_mending(self):
        rows = auction(0, "1H") + [call(1, "1C"), decide(0), call(3, "2C"), decide(0)]
        self.assertEqual(last(*rows, TABLE), told(1, "1H", mend=1, held=(0, 2, 0, 0)))
        self.assertEqual(last(*rows, call(1, "1D")), [-6])
        self.assertEqual(last(*rows, call(1, "X")), [-6])

    def test_barred_ahead_of_full(self):
        self.assertEqual(last(deal(0), *doubles(FULL), call(2, "1C")), [-6])

    def test_mending_ahead_of_full(self):
        rows = [deal(0)] + doubles(FULL - 3) + [call(0, "1H"), call(1, "1C"), decide(0)]
        self.assertEqual(last(*rows, call(1, "1D")), [-8])
        self.assertEqual(last(*rows, call(1, "2C")), [-9])

    def test_full(self):
        rows = [deal(0)] + doubles(FULL - 1)
        self.assertEqual(last(*rows, call(0, "P")), [0, 0])
        self.assertEqual(last(*rows, call(0, "P"), call(1, "P")), [-9])
        self.assertEqual(last(*rows, call(0, "X"), call(0, "X")), [-9])
        self.assertEqual(last(*rows, call(0, "X"), call(1, "P")), [-9])

    def test_decisions_count(self):
        rows = [deal(0)] + [call(1, "P"), decide(0)] * (FULL // 2)
        self.assertEqual(last(*rows, call(0, "P")), [-9])
        self.assertEqual(last(*rows[:-2], call(0, "P")), [0, 0])

    def test_refusals_do_not_count(self):
        rows = [deal(0)] + doubles(FULL - 1) + [call(2, "1C"), decide(1), undo(400)] * 5
        self.assertEqual(last(*rows, call(0, "P")), [0, 0])

    def test_undone_do_not_count(self):
        rows = [deal(0)] + doubles(FULL)
        self.assertEqual(ask(*rows, undo(1), call(0, "P"), call(1, "P"))[-3:], [[0], [0, 0], [-9]])

    def test_new_deal_counts_anew(self):
        self.assertEqual(last(deal(0), *doubles(FULL), deal(0), call(0, "P")), [0, 0])


class Decide(unittest.TestCase):

    def test_nothing_waits(self):
        for y in (0, 1):
            self.assertEqual(last(deal(0), decide(y)), [-7])
            self.assertEqual(last(*auction(0, "P 1C"), decide(y)), [-7])
            self.assertEqual(last(*auction(0, "P P P P"), decide(y)), [-7])
            self.assertEqual(last(deal(0), call(0, "X"), decide(y)), [-7])

    def test_decided_once(self):
        for y in (0, 1):
            self.assertEqual(last(deal(0), call(1, "P"), decide(y), decide(y)), [-7])

    def test_what_happened(self):
        low = auction(0, "1H") + [call(1, "1D")]
        self.assertEqual(last(*low, decide(1)), [0, 0])
        self.assertEqual(last(*low, decide(0)), [0, 4])
        early_pass = auction(0, "1H") + [call(3, "P")]
        self.assertEqual(last(*early_pass, decide(1)), [0, 0])
        self.assertEqual(last(*early_pass, decide(0)), [0, 5])
        for text in ("X", "1C", "7N"):
            early = auction(0, "1H") + [call(3, text)]
            self.assertEqual(last(*early, decide(1)), [0, 0])
            self.assertEqual(last(*early, decide(0)), [0, 6])

    def test_full(self):
        for y in (0, 1):
            rows = [deal(0)] + doubles(FULL - 2)
            self.assertEqual(last(*rows, call(1, "P"), decide(y))[0], 0)
            self.assertEqual(last(*rows, call(0, "X"), call(1, "P"), decide(y)), [-9])

    def test_nothing_waits_ahead_of_full(self):
        self.assertEqual(last(deal(0), *doubles(FULL), decide(1)), [-7])


class RefusalChangesNothing(unittest.TestCase):

    def test_each_refusal(self):
        low = auction(0, "1H") + [call(1, "1D")]
        cases = [
            (auction(0, "1H"), [decide(0), decide(1), undo(2), (2, 4, 0), (2, 1, 38), (3, 2), (4, -1), (7,)]),
            (auction(0, "1H P P P"), [call(0, "P"), call(1, "2C"), call(2, "X"), undo(5)]),
            (low, [call(1, "P"), call(2, "2C"), LEGALS, (8,), undo(3)]),
            (low + [decide(0)], [call(1, "X"), call(1, "1C"), call(1, "XX"), decide(1)]),
            ([deal(0), call(0, "X")], [call(2, "1C"), call(2, "X"), call(2, "XX")]),
        ]
        for rows, refused in cases:
            before = last(*rows, TABLE)
            for row in refused:
                found = ask(*rows, row, TABLE, undo(len(rows) - 1), TABLE)
                self.assertEqual(len(found[-4]), 1)
                self.assertLess(found[-4][0], 0)
                self.assertEqual(found[-3], before)
                self.assertEqual(found[-2:], [[0], told(0)])


class Undo(unittest.TestCase):

    LINES = (
        auction(0, "P 1C X XX P P 1D"),
        auction(2, "1H") + [call(3, "1C"), decide(0), call(3, "2C"), call(0, "2D")],
        auction(2, "1H") + [call(3, "1C"), decide(0), call(3, "P"), call(0, "2D")],
        auction(2, "1H") + [call(3, "1C"), decide(1), call(0, "X"), call(1, "XX")],
        auction(2, "1H") + [call(3, "1C"), decide(0), call(0, "1S"), decide(1), call(1, "P")],
        auction(2, "1H") + [call(3, "1C"), decide(0), call(0, "P"), decide(0), call(3, "3N"), call(0, "P")],
        auction(1, "") + [call(3, "1C"), decide(0), call(2, "P"), decide(0), call(3, "X"), call(1, "P"), call(2, "P")],
        auction(1, "1S X") + [call(0, "X"), call(0, "XX"), call(1, "XX"), decide(1), call(2, "P")],
    )

    def test_lines_have_no_refusal(self):
        for rows in self.LINES:
            self.assertTrue(all(answer[0] == 0 for answer in ask(*rows)))

    def test_as_it_was_before(self):
        for rows in self.LINES:
            done = len(rows) - 1
            for k in range(done + 1):
                found = ask(*rows, undo(k), TABLE)
                self.assertEqual(found[-2], [0])
                self.assertEqual(found[-1], last(*rows[:len(rows) - k], TABLE))

    def test_may_be_done_again(self):
        for rows in self.LINES:
            done = len(rows) - 1
            for k in range(done + 1):
                again = rows + [undo(k)] + rows[len(rows) - k:]
                self.assertEqual(last(*again, TABLE), last(*rows, TABLE))

    def test_undone_one_by_one(self):
        for rows in self.LINES:
            done = len(rows) - 1
            found = ask(*rows, *[undo(1)] * (done + 1), TABLE)
            self.assertEqual(found[len(rows):-2], [[0]] * done)
            self.assertEqual(found[-2], [-14])
            self.assertEqual(found[-1], told(rows[0][1]))

    def test_more_than_done(self):
        self.assertEqual(last(deal(0), undo(1)), [-14])
        self.assertEqual(last(deal(0), undo(400)), [-14])
        self.assertEqual(last(*auction(0, "P P"), undo(3)), [-14])
        self.assertEqual(last(*auction(0, "P P"), undo(2)), [0])
        self.assertEqual(last(*auction(0, "P P"), undo(1), undo(2)), [-14])

    def test_none(self):
        self.assertEqual(ask(deal(3), undo(0), TABLE), [[0], [0], told(3)])
        self.assertEqual(ask(*auction(3, "1C"), undo(0), TABLE)[-2:], [[0], told(0, "1C")])

    def test_all_of_them(self):
        found = ask(deal(3), *doubles(FULL), undo(FULL + 1), undo(FULL), TABLE, undo(1))
        self.assertEqual(found[-4:], [[-14], [0], told(3), [-14]])

    def test_call_that_waits_comes_back(self):
        rows = auction(0, "1H") + [call(1, "1D"), decide(1), undo(1)]
        self.assertEqual(last(*rows, TABLE), told(1, "1H", waits=1))
        self.assertEqual(ask(*rows, decide(0), TABLE)[-2:], [[0, 4], told(1, "1H", mend=1)])
        self.assertEqual(last(*rows, undo(1), TABLE), told(1, "1H"))

    def test_end_is_taken_back(self):
        self.assertEqual(last(*auction(0, "P P P P"), undo(1), TABLE), told(3, passes=3))
        self.assertEqual(last(*auction(0, "1C P P P"), undo(2), call(2, "1D")), [0, 0])

    def test_reads_do_not_count(self):
        self.assertEqual(last(*auction(0, "P"), TABLE, LEGALS, (8,), undo(1), TABLE), told(0))


if __name__ == "__main__":
    unittest.main()
