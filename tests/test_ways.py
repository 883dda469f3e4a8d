"""Point 8: ways."""

import unittest

from tests.asking import LEGALS, WAYS, above, auction, begun_auctions, call, deal, decide, last, undo, ways


class Ways(unittest.TestCase):

    def check(self, text, found):
        for dealer in range(4):
            self.assertEqual(ways(*auction(dealer, text)), found)

    def test_beginning(self):
        self.check("", (4 * 22 ** 35 - 1) // 3)

    def test_digits(self):
        digits = [ord(digit) for digit in str((4 * 22 ** 35 - 1) // 3)]
        self.assertEqual(len(digits), 48)
        self.assertEqual(last(deal(2), WAYS), [0] + digits)
        self.assertEqual(last(*auction(0, "7S"), WAYS), [0, 49, 53, 52])

    def test_passes_at_the_beginning(self):
        self.check("P", 1 + 3 * above(35))
        self.check("P P", 1 + 2 * above(35))
        self.check("P P P", 1 + above(35))

    def test_over(self):
        self.check("P P P P", 1)
        self.check("1C P P P", 1)
        self.check("1C X P P P", 1)
        self.check("7N X XX P P P", 1)
        self.assertEqual(last(*auction(0, "P P P P"), WAYS), [0, 49])

    def test_highest_bid(self):
        for text, found in (("", 7), ("P", 4), ("P P", 4), ("X", 3), ("X P", 2), ("X P P", 2),
                            ("X XX", 1), ("X XX P", 1), ("X XX P P", 1), ("P P X", 3), ("P P X P", 2),
                            ("P P X P P", 2), ("P P X P P XX", 1)):
            self.check("7N " + text, found)

    def test_bid_below(self):
        for text, found in (("", 154), ("P", 81), ("P P", 74), ("X", 66), ("X P", 37), ("X P P", 30),
                            ("X XX", 22), ("X XX P", 15), ("X XX P P", 8)):
            self.check("7S " + text, found)

    def test_lower_bids(self):
        self.check("1C", 7 + 21 * above(34))
        self.check("1C P P 1D", 7 + 21 * above(33))
        self.check("P P P 3N X", 3 + 9 * above(20))
        self.check("3N X XX", 1 + 3 * above(20))
        self.check("3N P P", 4 + 10 * above(20))

    def test_behind_a_bid_too_low(self):
        rows = auction(0, "7N") + [call(1, "7S"), decide(1)]
        self.assertEqual(ways(*rows), 154)
        rows = auction(0, "7N") + [call(2, "1C"), decide(1), call(3, "X")]
        self.assertEqual(ways(*rows), 3 + 9 * above(34))

    def test_behind_calls_out_of_turn(self):
        self.assertEqual(ways(deal(0), call(2, "P"), decide(1)), 1 + 3 * above(35))
        self.assertEqual(ways(deal(0), call(3, "7S"), decide(1)), 154)
        self.assertEqual(ways(*auction(0, "7S"), call(2, "P"), decide(1)), 81)
        # Two passes behind the bid and its own side on turn: it may not double.
        self.assertEqual(ways(*auction(0, "7S P"), call(3, "P"), decide(1)), 8)
        self.assertEqual(ways(*auction(0, "7S P"), call(1, "P"), decide(1)), 8)
        self.assertEqual(ways(*auction(0, "7S P"), call(0, "P"), decide(1)), 74)
        # Two passes behind the double and its own side on turn: it may not redouble.
        self.assertEqual(ways(*auction(0, "7S X P"), call(0, "P"), decide(1)), 8)
        self.assertEqual(ways(*auction(0, "7S X"), call(0, "XX"), decide(1)), 22)
        self.assertEqual(ways(*auction(0, "7S"), call(3, "X"), decide(1)), 66)

    def test_one_way_only_when_over_out_of_turn(self):
        self.assertEqual(ways(*auction(0, "7S P P"), call(2, "P"), decide(1)), 1)

    def test_as_if_nobody_were_held(self):
        self.assertEqual(ways(*auction(0, "7S"), call(3, "XX")), 154)
        self.assertEqual(ways(*auction(0, "7S"), call(0, "X"), call(1, "XX")), 154)
        self.assertEqual(ways(*auction(0, "7S"), call(3, "P"), decide(0)), 154)
        self.assertEqual(ways(*auction(0, "7S"), call(1, "1C"), decide(0)), 154)

    def test_waits(self):
        self.assertEqual(last(*auction(0, "7S"), call(1, "1C"), WAYS), [-5])
        self.assertEqual(last(*auction(0, "7S"), call(2, "P"), WAYS), [-5])
        self.assertEqual(ways(*auction(0, "7S"), call(1, "1C"), undo(1)), 154)

    def test_sum_of_the_ways_behind_each_call(self):
        for rows in begun_auctions():
            turn = last(*rows, (5,))[1]
            behind = [ways(*rows, (2, turn, c)) for c in last(*rows, LEGALS)[1:]]
            self.assertEqual(ways(*rows), sum(behind))

    def test_counted_one_by_one(self):
        self.assertEqual(counted(auction(0, "7N")), ways(*auction(0, "7N")))
        self.assertEqual(counted(auction(0, "7S P")), ways(*auction(0, "7S P")))


def counted(rows):
    """The ways from here, each gone to its end."""
    told = last(*rows, (5,))
    if told[5] == 1:
        return 1
    return sum(counted(rows + [(2, told[1], c)]) for c in last(*rows, LEGALS)[1:])


if __name__ == "__main__":
    unittest.main()
