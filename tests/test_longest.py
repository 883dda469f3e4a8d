"""Point 9: longest."""

import unittest

from tests.asking import (LEGALS, LONG, LONGEST, TABLE, WORDS, ask, auction, begun_auctions, call, deal, decide, last,
                          look, read, undo)


class Longest(unittest.TestCase):

    def check(self, text, found):
        for dealer in range(4):
            self.assertEqual(last(*auction(dealer, text), LONGEST), [0, found], text)

    def test_beginning(self):
        self.check("", 319)

    def test_passes_at_the_beginning(self):
        self.check("P", 318)
        self.check("P P", 317)
        self.check("P P P", 316)

    def test_over(self):
        for text in ("P P P P", "1C P P P", "1C X P P P", "7N X XX P P P"):
            self.check(text, 0)

    def test_highest_bid(self):
        for text, found in (("", 9), ("P", 8), ("P P", 7), ("P P X", 6), ("P P X P", 5), ("P P X P P", 4),
                            ("P P X P P XX", 3), ("P P X P P XX P", 2), ("P P X P P XX P P", 1), ("P P X XX", 3),
                            ("X", 6), ("X P", 5), ("X P P", 4), ("X XX", 3), ("X XX P P", 1)):
            self.check("7N " + text, found)

    def test_bid_below(self):
        for text, found in (("", 18), ("P", 17), ("P P", 16), ("X", 15), ("X P", 14), ("X P P", 13), ("X XX", 12),
                            ("X XX P", 11), ("X XX P P", 10)):
            self.check("7S " + text, found)

    def test_each_bid(self):
        for bid, word in enumerate(WORDS[3:]):
            self.check(word, 9 * (35 - bid))
            self.check("P P P " + word + " X", 9 * (35 - bid) - 3)

    def test_behind_calls_withdrawn_at_once(self):
        self.assertEqual(last(deal(0), call(0, "X"), LONGEST), [0, 319])
        self.assertEqual(last(*auction(0, "7S"), call(0, "X"), call(1, "XX"), LONGEST), [0, 18])

    def test_behind_a_bid_too_low(self):
        rows = auction(0, "7N") + [call(1, "7S"), decide(1)]
        self.assertEqual(last(*rows, LONGEST), [0, 18])
        rows = auction(0, "7N") + [call(1, "1C"), decide(1)]
        self.assertEqual(last(*rows, LONGEST), [0, 315])
        self.assertEqual(last(*rows, call(2, "X"), LONGEST), [0, 312])
        # Behind the bid that's withdrawn all is as before it.
        self.assertEqual(last(*auction(0, "7N"), call(1, "7S"), decide(0), LONGEST), [0, 9])

    def test_behind_calls_out_of_turn(self):
        self.assertEqual(last(deal(0), call(2, "P"), decide(1), LONGEST), [0, 318])
        self.assertEqual(last(deal(0), call(3, "7S"), decide(1), LONGEST), [0, 18])
        # Two passes behind the bid and its own side on turn: it may not double.
        self.assertEqual(last(*auction(0, "7N P"), call(3, "P"), decide(1), LONGEST), [0, 1])
        self.assertEqual(last(*auction(0, "7S P"), call(3, "P"), decide(1), LONGEST), [0, 10])
        # One pass behind the bid and the other side on turn: it may double at once, or only pass.
        self.assertEqual(last(*auction(0, "7N"), call(2, "P"), decide(1), LONGEST), [0, 7])
        # Two passes behind the double and its own side on turn: it may not redouble.
        self.assertEqual(last(*auction(0, "7N X P"), call(0, "P"), decide(1), LONGEST), [0, 1])
        self.assertEqual(last(*auction(0, "7N"), call(3, "X"), decide(1), LONGEST), [0, 6])
        self.assertEqual(last(*auction(0, "7N P P"), call(2, "P"), decide(1), LONGEST), [0, 0])

    def test_waits(self):
        self.assertEqual(last(deal(0), call(2, "P"), LONGEST), [-5])
        self.assertEqual(last(*auction(0, "7S"), call(1, "1C"), LONGEST), [-5])
        self.assertEqual(ask(*auction(0, "7S"), call(1, "1C"), LONGEST, undo(1), LONGEST)[-3:], [[-5], [0], [0, 18]])

    def test_as_if_nobody_were_held(self):
        self.assertEqual(last(*auction(0, "7S"), call(3, "XX"), LONGEST), [0, 18])
        self.assertEqual(last(*auction(0, "7S"), call(3, "P"), decide(0), LONGEST), [0, 18])
        self.assertEqual(last(*auction(0, "7S"), call(1, "1C"), decide(0), LONGEST), [0, 18])

    def test_no_auction(self):
        self.assertEqual(ask(LONGEST, deal(4), LONGEST, look(0, "P"), LONGEST, read(0, "Q"), LONGEST, deal(0), LONGEST),
                         [[-3], [-1], [-3], [0, 0, 1], [-3], [-12], [-3], [0], [0, 319]])

    def test_changes_nothing(self):
        rows = auction(1, "P 2H X")
        before = last(*rows, TABLE)
        self.assertEqual(ask(*rows, LONGEST, LONGEST, TABLE)[-1], before)

    def test_each_call_of_the_longest_takes_one(self):
        words = LONG.split()
        for made in range(320):
            self.assertEqual(last(read(3, " ".join(words[:made])), LONGEST), [0, 319 - made])

    def test_one_more_than_behind_the_best_call(self):
        for rows in begun_auctions():
            turn = last(*rows, TABLE)[1]
            behind = [last(*rows, (2, turn, c), LONGEST)[1] for c in last(*rows, LEGALS)[1:]]
            self.assertEqual(last(*rows, LONGEST), [0, 1 + max(behind)])

    def test_counted_one_by_one(self):
        for text in ("7N", "7S P"):
            rows = auction(0, text)
            self.assertEqual(last(*rows, LONGEST), [0, counted(rows)])


def counted(rows):
    """How many calls the longest way from here has, each gone to its end."""
    told = last(*rows, TABLE)
    if told[5] == 1:
        return 0
    return 1 + max(counted(rows + [(2, told[1], c)]) for c in last(*rows, LEGALS)[1:])


if __name__ == "__main__":
    unittest.main()
