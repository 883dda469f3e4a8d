"""Point 11: nth."""

import unittest

from tests.asking import (ALL, FAR, LONG, NUMBER, TABLE, above, ask, auction, call, deal, last, nth, numeral, read,
                          said, told)


class Nth(unittest.TestCase):

    def check(self, number, text):
        for dealer in range(4):
            self.assertEqual(ask(nth(dealer, str(number))), [said(text)], number)

    def test_as_written(self):
        self.assertEqual(ask((11, 0, 1, 48)), [[0, 80, 32, 80, 32, 80, 32, 80]])
        self.assertEqual(ask((11, 3, 1, 49)), [[0, 80, 32, 80, 32, 80, 32, 49, 67, 32, 80, 32, 80, 32, 80]])

    def test_first_ones(self):
        self.check(0, "P P P P")
        self.check(1, "P P P 1C P P P")
        self.check(2, "P P P 1C P P X P P P")
        self.check(3, "P P P 1C P P X P P XX P P P")
        self.check(10, "P P P 1C P P X P P XX P P 1D P P X P P XX P P 1H P P X P P XX P P 1S P P P")
        self.check(105, LONG)

    def test_last_ones(self):
        self.check(ALL - 1, "7N X XX P P P")
        self.check(ALL - 2, "7N X P P XX P P P")
        self.check(ALL - 7, "7N P P P")
        self.check(ALL - 8, "7S 7N X XX P P P")
        self.check(ALL - 161, "7S P P P")

    def test_between(self):
        self.check(above(35), "P P P 7N X XX P P P")
        self.check(1 + above(35), "P P 1C P P P")
        self.check(3 * above(35), "P 7N X XX P P P")
        self.check(1 + 3 * above(35), "1C P P P")
        self.check(ALL - 1 - above(34), "1C 7N X XX P P P")

    def test_behind_the_last(self):
        for number in (ALL, ALL + 1, 2 * ALL, 10 ** 48, 10 ** 59, 10 ** 60 - 1):
            for dealer in range(4):
                self.assertEqual(ask(nth(dealer, str(number))), [[-13]])

    def test_no_numeral(self):
        for text in ("", "00", "01", "007", "0" * 60, "0" + str(ALL - 1), " ", " 1", "1 ", "1 1", "+1", "-1", "-0",
                     "1.0", "1e3", "1_0", "0x1", "P", "P P P P", "1" * 59 + "x", "x" + "1" * 59, "1\n", "\t1"):
            for dealer in range(4):
                self.assertEqual(ask(nth(dealer, text)), [[-12]], text)

    def test_each_byte(self):
        for byte in range(256):
            digit = 48 <= byte <= 57
            self.assertEqual(last(nth(0, [byte])) == [-12], not digit)
            self.assertEqual(last(nth(0, [49, byte])) == [-12], not digit)

    def test_no_numeral_ahead_of_too_great(self):
        for text in ("9" * 59 + ".", "0" + str(ALL), "0" + "9" * 59, ":" + "9" * 59):
            self.assertEqual(ask(nth(0, text)), [[-12]])

    def test_out_of_range(self):
        for dealer in (-1, 4, FAR, -FAR):
            for text in ("0", "", "x", str(ALL), "9" * 60):
                self.assertEqual(ask(nth(dealer, text)), [[-1]])
        for wrong in (-1, 256, FAR, -FAR):
            for numbers in ([wrong], [48, wrong], [wrong, 48], [120, wrong], [49] * 59 + [wrong], [wrong] + [57] * 59,
                            [49] * 30 + [wrong] + [49] * 29):
                self.assertEqual(ask(nth(2, numbers)), [[-1]])
                self.assertEqual(last(deal(0), nth(2, numbers)), [-1])

    def test_needs_no_auction_and_begins_none(self):
        self.assertEqual(ask(nth(0, "0"), TABLE, nth(0, ""), TABLE, nth(0, str(ALL)), TABLE, NUMBER),
                         [said("P P P P"), [-3], [-12], [-3], [-13], [-3], [-3]])

    def test_changes_nothing(self):
        rows = auction(1, "1C X") + [call(0, "P")]
        before = last(*rows, TABLE)
        found = ask(*rows, nth(0, "0"), TABLE, nth(2, "01"), TABLE, nth(3, str(ALL)), TABLE, nth(4, "1"), TABLE)
        self.assertEqual(found[-8:], [said("P P P P"), before, [-12], before, [-13], before, [-1], before])
        self.assertEqual(before, told(3, "1C", 1, waits=2))

    def test_there_and_back(self):
        for text in ("P P P P", "1N P 3N P P P", "P P P 1N X 2C P 2D P 3N P P P", "P 7H P P X P P 7S X XX 7N P P P",
                     "1C 1D X XX 1H P P X P 3S P P X P P XX 4C P P P", LONG):
            for dealer in range(4):
                number = numeral(read(dealer, text), NUMBER)
                self.assertEqual(ask(nth((dealer + 1) % 4, str(number))), [said(text)])

    def test_back_and_there(self):
        number = 1
        while number < ALL:
            for wanted in (number, ALL - number):
                text = "".join(chr(byte) for byte in last(nth(3, str(wanted)))[1:])
                self.assertEqual(numeral(read(3, text), NUMBER), wanted)
            number = number * 7 + 3


if __name__ == "__main__":
    unittest.main()
