"""Points 12 and 13: text and look."""

import unittest

from tests.asking import (FAR, LONG, TABLE, TEXT, WORDS, ask, auction, call, deal, decide, last, look, read, said, told,
                          undo)


class Text(unittest.TestCase):

    def test_no_calls(self):
        for dealer in range(4):
            self.assertEqual(last(deal(dealer), TEXT), [0])

    def test_as_written(self):
        self.assertEqual(last(deal(0), (2, 0, 0), TEXT), [0, 80])
        self.assertEqual(last(deal(0), (2, 0, 3), (2, 1, 1), (2, 2, 2), (2, 3, 37), TEXT),
                         [0, 49, 67, 32, 88, 32, 88, 88, 32, 55, 78])
        self.assertEqual(last(deal(0), (2, 0, 4), (2, 1, 10), (2, 2, 16), TEXT), [0, 49, 68, 32, 50, 72, 32, 51, 83])

    def test_each_bid(self):
        found = [last(deal(1), (2, 1, c), TEXT) for c in range(3, 38)]
        self.assertEqual(found, [said(level + strain) for level in "1234567" for strain in "CDHSN"])

    def test_turn_by_turn(self):
        for text in ("P", "P P P P", "1C X XX P P P", "P 7S X P P XX 7N", " ".join(WORDS[3:])):
            self.assertEqual(last(*auction(2, text), TEXT), said(text))

    def test_longest(self):
        self.assertEqual(last(*auction(2, LONG), TEXT), said(LONG))

    def test_accepted(self):
        self.assertEqual(last(deal(0), call(2, "1C"), decide(1), TEXT), said("1C"))
        self.assertEqual(last(*auction(0, "2C"), call(1, "1C"), decide(1), call(2, "X"), TEXT), said("2C 1C X"))
        self.assertEqual(last(*auction(0, "P P P"), call(0, "P"), decide(1), TEXT), said("P P P P"))

    def test_waiting_and_withdrawn_are_not_told(self):
        self.assertEqual(last(deal(0), call(2, "1C"), TEXT), [0])
        self.assertEqual(last(deal(0), call(2, "1C"), decide(0), TEXT), [0])
        self.assertEqual(last(*auction(0, "2C"), call(1, "1C"), TEXT), said("2C"))
        self.assertEqual(last(*auction(0, "2C"), call(1, "1C"), decide(0), call(1, "2D"), TEXT), said("2C 2D"))
        self.assertEqual(last(*auction(0, "2C"), call(0, "X"), TEXT), said("2C"))

    def test_undone(self):
        self.assertEqual(ask(*auction(0, "P 1C X"), TEXT, undo(2), TEXT, undo(1), TEXT)[-5:],
                         [said("P 1C X"), [0], said("P"), [0], [0]])

    def test_no_auction(self):
        self.assertEqual(ask(TEXT, deal(-1), TEXT), [[-3], [-1], [-3]])

    def test_changes_nothing(self):
        rows = auction(0, "P 1C")
        before = last(*rows, TABLE)
        self.assertEqual(ask(*rows, TEXT, TEXT, TABLE)[-3:], [said("P 1C"), said("P 1C"), before])


class Look(unittest.TestCase):

    def check(self, text, kind, number):
        for dealer in range(4):
            self.assertEqual(ask(look(dealer, text)), [[0, kind, number]], text)

    def test_nothing_wrong(self):
        for text in ("P", "7N", "P P P P", "1C P P P", "1C X XX", "1C P P X P P XX 1D X 7N X XX P P P",
                     " ".join(WORDS[3:]), LONG):
            self.check(text, 0, len(text.split()))

    def test_empty(self):
        self.check("", 0, 0)

    def test_blanks(self):
        self.check(" ", 1, 0)
        self.check("  ", 1, 0)
        self.check(" P", 1, 0)
        self.check("P ", 1, 2)
        self.check("P  P", 1, 2)
        self.check("1C X  XX", 1, 5)
        self.check("P P P P ", 1, 8)
        self.check("P P P P  P", 1, 8)

    def test_no_call(self):
        for word in ("p", "x", "xx", "xX", "Xx", "XXX", "PP", "PX", "XP", "R", "1", "C", "1c", "C1", "0C", "8C", "9N",
                     "1E", "1A", "1P", "1X", "1NT", "1C1D", "11C", "-", "1C,", "1C\n", "\tP", "P\t", "P\nP", "PASS",
                     "\0", "\xff", "\xb9C", "1\xc3"):
            self.check(word, 1, 0)
            self.check("P 1C X " + word, 1, 7)
            self.check(word + " P", 1, 0)

    def test_each_pair_of_bytes(self):
        for first in range(256):
            if first != 32:
                found = {80: [0, 0, 1], 88: [0, 2, 0]}.get(first, [0, 1, 0])
                self.assertEqual(ask(look(0, [first])), [found])
            self.assertEqual(ask(look(0, [49, first])), [[0, 0, 1] if first in b"CDHSN" else [0, 1, 0]])
            self.assertEqual(ask(look(0, [first, 78])), [[0, 0, 1] if first in b"1234567" else [0, 1, 0]])

    def test_not_legal(self):
        self.check("X", 2, 0)
        self.check("XX", 2, 0)
        self.check("P X", 2, 2)
        self.check("1C XX", 2, 3)
        self.check("1C P X", 2, 5)
        self.check("1C X X", 2, 5)
        self.check("1C X P XX", 2, 7)
        self.check("1C X XX XX", 2, 8)
        self.check("1C X XX X", 2, 8)
        self.check("1C 1C", 2, 3)
        self.check("2C 1N", 2, 3)
        self.check("P P 7N 7S", 2, 7)
        self.check("1C P P X P P X", 2, 13)

    def test_over_before_it(self):
        self.check("P P P P P", 3, 8)
        self.check("P P P P 1C", 3, 8)
        self.check("1C P P P P", 3, 9)
        self.check("1C X XX P P P 7N", 3, 14)
        self.check(LONG + " P", 3, 708)

    def test_which_kind_is_told_of_one_word(self):
        self.check("P P P P X", 3, 8)
        self.check("7N P P P 1C", 3, 9)
        self.check("7N P P P XX", 3, 9)
        self.check("P P P P Q", 1, 8)
        self.check("7N P P P ", 1, 9)
        self.check("7N 8C", 1, 3)

    def test_first_word_is_told(self):
        self.check("1D 1C Q", 2, 3)
        self.check("1D Q 1C", 1, 3)
        self.check("Q X", 1, 0)
        self.check("X Q", 2, 0)
        self.check("P P P P P Q", 3, 8)
        self.check("P P P P Q P", 1, 8)
        self.check("P P P X P P", 2, 6)
        self.check("1C 1C P P P P", 2, 3)

    def test_place_counts_bytes(self):
        words = ["P", "P", "1C", "X", "XX", "P", "7N", "X", "XX"]
        for number in range(len(words)):
            begun = " ".join(words[:number] + ["?"])
            self.check(begun, 1, len(begun) - 1)
            self.check(begun + " " + " ".join(words), 1, len(begun) - 1)

    def test_thousand_bytes(self):
        for text, kind, place in ((" " * 1000, 1, 0), ("P" * 1000, 1, 0), ("P " * 500, 3, 8), ("P" + " " * 999, 1, 2),
                                  (LONG + " " * (1000 - len(LONG)), 1, 708), ("1C " + "P" * 997, 1, 3),
                                  (LONG + " P" * 146 + "P", 3, 708), (LONG + " " + "1" * 292, 1, 708),
                                  ("1C 1C" + " P" * 497 + " ", 2, 3)):
            self.assertEqual(len(text), 1000)
            self.check(text, kind, place)

    def test_out_of_range(self):
        for dealer in (-1, 4, FAR, -FAR):
            for text in ("", "P", "Q", " " * 1000):
                self.assertEqual(ask(look(dealer, text)), [[-1]])
        for wrong in (-1, 256, FAR, -FAR):
            for numbers in ([wrong], [80, 32, wrong], [wrong, 32, 80], [81, 32, 80, wrong], [32] * 999 + [wrong],
                            [wrong] + [80] * 999, [80, 32, 80, 32, 80, 32, 80, 32, 80, wrong]):
                self.assertEqual(ask(look(1, numbers)), [[-1]])
                self.assertEqual(last(deal(0), look(1, numbers)), [-1])

    def test_needs_no_auction_and_begins_none(self):
        self.assertEqual(ask(look(0, "P"), TABLE, look(0, ""), TEXT, look(0, "Q"), TABLE),
                         [[0, 0, 1], [-3], [0, 0, 0], [-3], [0, 1, 0], [-3]])

    def test_not_asked_of_the_table(self):
        rows = auction(1, "7N X") + [call(0, "P")]
        before = last(*rows, TABLE)
        found = ask(*rows, look(0, "1C"), TABLE, look(2, "X"), TABLE, look(3, "P P P P P"), TABLE,
                    look(0, [256]), TABLE)
        self.assertEqual(found[-8:], [[0, 0, 1], before, [0, 2, 0], before, [0, 3, 8], before, [-1], before])
        self.assertEqual(before, told(3, "7N", 1, waits=2))

    def test_over_at_the_table(self):
        self.assertEqual(last(*auction(0, "P P P P"), look(0, "P P P P")), [0, 0, 4])
        self.assertEqual(last(read(0, "7N P P P"), look(0, "1C 7N")), [0, 0, 2])


if __name__ == "__main__":
    unittest.main()
