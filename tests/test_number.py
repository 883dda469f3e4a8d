"""Point 10: number."""

import unittest

from tests.asking import (ALL, LEGALS, LONG, NUMBER, TABLE, above, ask, auction, call, calls_of, deal, decide, last,
                          numeral, read, undo, ways)


class Number(unittest.TestCase):

    def check(self, text, found):
        for dealer in range(4):
            self.assertEqual(numeral(*auction(dealer, text), NUMBER), found, text)

    def test_first(self):
        self.check("P P P P", 0)
        self.assertEqual(last(*auction(0, "P P P P"), NUMBER), [0, 48])

    def test_behind_the_first(self):
        self.check("P P P 1C P P P", 1)
        self.check("P P P 1C P P X P P P", 2)
        self.check("P P P 1C P P X P P XX P P P", 3)
        self.check("P P P 1C P P X P P XX P P 1D P P P", 4)
        self.assertEqual(last(*auction(2, "P P P 1C P P P"), NUMBER), [0, 49])

    def test_last(self):
        self.check("7N X XX P P P", ALL - 1)
        digits = [ord(digit) for digit in str(ALL - 1)]
        self.assertEqual(len(digits), 48)
        self.assertEqual(last(*auction(1, "7N X XX P P P"), NUMBER), [0] + digits)

    def test_last_ones(self):
        texts = ("7N P P P", "7N P P X P P P", "7N P P X P P XX P P P", "7N P P X XX P P P", "7N X P P P",
                 "7N X P P XX P P P", "7N X XX P P P")
        for place, text in enumerate(texts):
            self.check(text, ALL - 7 + place)

    def test_between(self):
        self.check("P P 1C P P P", 1 + above(35))
        self.check("P 1C P P P", 1 + 2 * above(35))
        self.check("1C P P P", 1 + 3 * above(35))
        self.check("1D P P P", 1 + 3 * above(35) + 7 + 21 * above(34))
        self.check("7S P P P", ALL - 7 - 154)
        self.check("P 7S P P P", 1 + 3 * above(35) - 7 - 154)
        self.check("7S X P P P", ALL - 7 - 154 + 81)
        self.check("7S X XX P P P", ALL - 7 - 154 + 81 + 37)
        self.check("7S X XX 7N P P P", ALL - 7 - 154 + 81 + 37 + 15)

    def test_longest(self):
        for dealer in range(4):
            self.assertEqual(numeral(read(dealer, LONG), NUMBER), 105)

    def test_sum_of_the_ways_before_it(self):
        for text in ("P P P 1N X 2C P 2D P 3N P P P", "1C 1D X XX 1H P P X P 3S P P X P P XX 4C P P P",
                     "P 7H P P X P P 7S X XX 7N P P X P P XX P P P", "P P 1S P 2S P 4S P P P"):
            self.check(text, ways_before(text))

    def test_numbers_in_order(self):
        for begun, first in (("7S", ALL - 7 - 154), ("P P P 7S", 1 + above(35) - 7 - 154), ("7H 7S X", None)):
            texts = finished(begun)
            numbers = [numeral(*auction(0, text), NUMBER) for text in texts]
            if first is None:
                first = ways_before(texts[0])
            self.assertEqual(numbers, list(range(first, first + len(texts))))

    def test_not_over(self):
        for text in ("", "P P P", "1C P P", "7N X XX P P"):
            self.assertEqual(last(*auction(0, text), NUMBER), [-10])

    def test_not_over_while_a_call_waits(self):
        self.assertEqual(last(*auction(0, "P P P"), call(0, "P"), NUMBER), [-10])
        self.assertEqual(last(*auction(0, "2C"), call(1, "1C"), NUMBER), [-10])

    def test_not_over_ahead_of_turn_by_turn(self):
        self.assertEqual(last(deal(0), call(1, "P"), decide(1), NUMBER), [-10])
        self.assertEqual(last(*auction(0, "2C"), call(1, "1C"), decide(1), call(2, "P"), NUMBER), [-10])

    def test_accepted_out_of_turn(self):
        # The first call, though all the others are made in turn.
        rows = [deal(0), call(1, "P"), decide(1)] + [call(seat, "P") for seat in (2, 3, 0)]
        self.assertEqual(ask(*rows, NUMBER, TABLE)[-2:], [[-11], [0, 1, 0, 0, 4, 1, 0, 0, 0, 0, 0, 0]])
        rows = [deal(0), call(2, "1C"), decide(1)] + [call(seat, "P") for seat in (3, 0, 1)]
        self.assertEqual(last(*rows, NUMBER), [-11])
        # The last one.
        self.assertEqual(last(*auction(0, "1C P P"), call(0, "P"), decide(1), NUMBER), [-11])
        self.assertEqual(last(*auction(0, "P P P"), call(2, "P"), decide(1), NUMBER), [-11])
        # One between, a double.
        rows = auction(0, "1C") + [call(3, "X"), decide(1)] + [call(seat, "P") for seat in (0, 1, 2)]
        self.assertEqual(last(*rows, NUMBER), [-11])

    def test_accepted_too_low(self):
        rows = auction(0, "2C") + [call(1, "1C"), decide(1)] + [call(seat, "P") for seat in (2, 3, 0)]
        self.assertEqual(last(*rows, NUMBER), [-11])
        rows = auction(0, "2C") + [call(1, "2C"), decide(1)] + [call(seat, "P") for seat in (2, 3, 0)]
        self.assertEqual(last(*rows, NUMBER), [-11])
        rows = auction(0, "2C") + [call(1, "1C"), decide(1), call(2, "3C")] + [call(seat, "P") for seat in (3, 0, 1)]
        self.assertEqual(last(*rows, NUMBER), [-11])

    def test_withdrawn_is_turn_by_turn(self):
        rows = [deal(0), call(1, "P"), decide(0)] + [call(seat, "P") for seat in range(4)]
        self.assertEqual(last(*rows, NUMBER), [0, 48])
        rows = auction(0, "7S") + [call(1, "1C"), decide(0)] + [call(seat, "P") for seat in (1, 2, 3)]
        self.assertEqual(numeral(*rows, NUMBER), ALL - 7 - 154)
        rows = auction(0, "7S") + [call(0, "X")] + [call(seat, "P") for seat in (1, 2, 3)]
        self.assertEqual(numeral(*rows, NUMBER), ALL - 7 - 154)

    def test_undone_is_turn_by_turn(self):
        rows = [deal(0), call(2, "1C"), decide(1), undo(2)] + [call(seat, "P") for seat in range(4)]
        self.assertEqual(last(*rows, NUMBER), [0, 48])
        self.assertEqual(ask(*auction(0, "P P P P"), NUMBER, undo(1), NUMBER)[-3:], [[0, 48], [0], [-10]])

    def test_no_auction(self):
        self.assertEqual(ask(NUMBER, deal(0, 4), NUMBER), [[-3], [-1], [-3]])

    def test_changes_nothing(self):
        rows = auction(3, "P P P P")
        before = last(*rows, TABLE)
        self.assertEqual(ask(*rows, NUMBER, NUMBER, TABLE)[-3:], [[0, 48], [0, 48], before])


def ways_before(text):
    """The ways of all that begins as this text does but for a smaller call at one place, summed place by place."""
    words = text.split()
    found = 0
    for place, made in enumerate(calls_of(text)):
        rows = auction(0, " ".join(words[:place]))
        for smaller in last(*rows, LEGALS)[1:]:
            if smaller < made:
                found += ways(*rows, (2, place % 4, smaller))
    return found


def finished(text):
    """The texts of the finished auctions that begin so, in order."""
    words = ("P", "X", "XX", "7S", "7N")
    rows = auction(0, text)
    told = last(*rows, TABLE)
    if told[5] == 1:
        return [text]
    legal = last(*rows, LEGALS)[1:]
    return [found for c, word in zip((0, 1, 2, 36, 37), words) if c in legal for found in finished(text + " " + word)]


if __name__ == "__main__":
    unittest.main()
