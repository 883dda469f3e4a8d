"""Point 7: contract."""

import unittest

from tests.asking import CONTRACT, auction, bid, call, deal, decide, last, undo


class Contract(unittest.TestCase):

    def check(self, dealer, text, found):
        self.assertEqual(last(*auction(dealer, text), CONTRACT), found)

    def test_passed_out(self):
        for dealer in range(4):
            self.check(dealer, "P P P P", [0])

    def test_not_over(self):
        for text in ("", "P", "P P P", "1C", "1C P P", "1C X P P", "7N X XX P P"):
            self.check(0, text, [-10])

    def test_not_over_while_a_call_waits(self):
        self.assertEqual(last(*auction(0, "1C P P"), call(0, "P"), CONTRACT), [-10])
        self.assertEqual(last(*auction(0, "1C P P"), call(0, "P"), decide(1), CONTRACT), [0, 0, 0, 0, 1, 2])

    def test_lowest_and_highest(self):
        self.check(0, "1C P P P", [0, 0, 0, 0, 1, 2])
        self.check(3, "7N X XX P P P", [0, 34, 2, 3, 0, 1])

    def test_doubled(self):
        self.check(1, "P 2H X P P P", [0, bid("2H"), 1, 2, 3, 0])
        self.check(1, "P 2H P P X P P P", [0, bid("2H"), 1, 2, 3, 0])
        self.check(1, "P 2H X P P XX P P P", [0, bid("2H"), 2, 2, 3, 0])
        self.check(1, "P 2H X XX 2S P P P", [0, bid("2S"), 0, 1, 2, 3])

    def test_first_of_the_side_to_bid_the_strain(self):
        self.check(0, "1S P 2S P 4S P P P", [0, bid("4S"), 0, 0, 1, 2])
        self.check(0, "1S P 4S P P P", [0, bid("4S"), 0, 0, 1, 2])
        self.check(0, "1S P 2H P 4H P P P", [0, bid("4H"), 0, 2, 3, 0])

    def test_other_side_bid_it_first(self):
        self.check(0, "1S 2S P P P", [0, bid("2S"), 0, 1, 2, 3])
        self.check(0, "1S 2C P 2S P 3S P P P", [0, bid("3S"), 0, 3, 0, 1])

    def test_in_the_whole_auction(self):
        self.check(0, "1S 2C 2D 3C 4S P P P", [0, bid("4S"), 0, 0, 1, 2])
        self.check(2, "1N P 2C P 2N P 3C P 3N P P P", [0, bid("3N"), 0, 2, 3, 0])

    def test_behind_bids_too_low(self):
        rows = auction(0, "2S") + [call(1, "1S"), decide(1)] + [call(seat, "P") for seat in (2, 3, 0)]
        self.assertEqual(last(*rows, CONTRACT), [0, bid("1S"), 0, 1, 2, 3])

    def test_withdrawn_bids_do_not_name(self):
        rows = [deal(0), call(2, "1S"), decide(0)] + [call(0, "P"), call(1, "P"), call(2, "1S")]
        rows += [call(seat, "P") for seat in (3, 0, 1)]
        self.assertEqual(last(*rows, CONTRACT), [0, bid("1S"), 0, 2, 3, 0])
        rows = auction(0, "2C") + [call(1, "1S"), decide(0), call(1, "P"), call(2, "P"), call(3, "P")]
        self.assertEqual(last(*rows, CONTRACT), [0, bid("2C"), 0, 0, 1, 2])

    def test_behind_calls_out_of_turn(self):
        rows = [deal(0), call(3, "1H"), decide(1), call(0, "P"), call(1, "4H")]
        rows += [call(seat, "P") for seat in (2, 3, 0)]
        self.assertEqual(last(*rows, CONTRACT), [0, bid("4H"), 0, 3, 0, 1])

    def test_undone(self):
        rows = auction(0, "1C P P P")
        self.assertEqual(last(*rows, undo(1), CONTRACT), [-10])


if __name__ == "__main__":
    unittest.main()
