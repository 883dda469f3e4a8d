"""What 'The table' tells, as points 5 (table) and 6 (legals) show it."""

import unittest

from tests.asking import LEGALS, TABLE, ask, auction, call, calls_of, deal, decide, last, number, told

BIDS = list(range(3, 38))


def from_bid(text):
    return list(range(number(text), 38))


class Told(unittest.TestCase):

    def test_numbers(self):
        self.assertEqual(last(*auction(0, ""), TABLE), told(0))
        self.assertEqual(last(*auction(0, "P"), TABLE), told(1, passes=1))
        self.assertEqual(last(*auction(3, "P P P"), TABLE), told(2, passes=3))
        self.assertEqual(last(*auction(3, "P P P P"), TABLE), told(3, passes=4, over=1))
        self.assertEqual(last(*auction(0, "1C"), TABLE), told(1, "1C"))
        self.assertEqual(last(*auction(0, "P 7N P"), TABLE), told(3, "7N", passes=1))
        self.assertEqual(last(*auction(0, "1C X"), TABLE), told(2, "1C", 1))
        self.assertEqual(last(*auction(0, "1C P P X P"), TABLE), told(1, "1C", 1, 1))
        self.assertEqual(last(*auction(0, "1C X P P XX P P"), TABLE), told(3, "1C", 2, 2))
        self.assertEqual(last(*auction(0, "1C X XX 1D"), TABLE), told(0, "1D"))
        self.assertEqual(last(*auction(0, "1C X XX P P P"), TABLE), told(2, "1C", 2, 3, 1))

    def test_shown_as_written(self):
        self.assertEqual(last(deal(0), (2, 0, 3), (2, 1, 1), TABLE), [0, 2, 1, 1, 0, 0, 0, 0, 0, 0, 0, 0])
        self.assertEqual(last(deal(0), (2, 0, 37), (2, 1, 0), TABLE), [0, 2, 35, 0, 1, 0, 0, 0, 0, 0, 0, 0])


class Legals(unittest.TestCase):

    def test_plain(self):
        self.assertEqual(last(deal(0), LEGALS), [0, 0] + BIDS)
        self.assertEqual(last(*auction(0, "P P P"), LEGALS), [0, 0] + BIDS)
        self.assertEqual(last(*auction(0, "1C"), LEGALS), [0, 0, 1] + from_bid("1D"))
        self.assertEqual(last(*auction(0, "1C P"), LEGALS), [0, 0] + from_bid("1D"))
        self.assertEqual(last(*auction(0, "1C P P"), LEGALS), [0, 0, 1] + from_bid("1D"))
        self.assertEqual(last(*auction(0, "1C X"), LEGALS), [0, 0, 2] + from_bid("1D"))
        self.assertEqual(last(*auction(0, "1C X P"), LEGALS), [0, 0] + from_bid("1D"))
        self.assertEqual(last(*auction(0, "1C X P P"), LEGALS), [0, 0, 2] + from_bid("1D"))
        self.assertEqual(last(*auction(0, "1C X XX"), LEGALS), [0, 0] + from_bid("1D"))
        self.assertEqual(last(*auction(0, "1C X XX P"), LEGALS), [0, 0] + from_bid("1D"))
        self.assertEqual(last(*auction(0, "7S X"), LEGALS), [0, 0, 2, 37])
        self.assertEqual(last(*auction(0, "7N"), LEGALS), [0, 0, 1])

    def test_over(self):
        self.assertEqual(last(*auction(0, "P P P P"), LEGALS), [0])
        self.assertEqual(last(*auction(0, "1C P P P"), LEGALS), [0])

    def test_waits(self):
        self.assertEqual(last(*auction(0, "1C"), call(2, "P"), LEGALS), [-5])
        self.assertEqual(last(*auction(0, "1D"), call(1, "1C"), LEGALS), [-5])

    def test_held_to_pass(self):
        self.assertEqual(last(*auction(0, "1C"), call(3, "XX"), LEGALS), [0, 0])
        self.assertEqual(last(deal(0), call(1, "P"), decide(0), call(0, "1C"), LEGALS), [0, 0])

    def test_held_and_over(self):
        rows = [deal(0), call(1, "X"), call(0, "X")] + auction(0, "P P P P")[1:]
        self.assertEqual(last(*rows, LEGALS), [0])

    def test_to_be_mended(self):
        rows = auction(0, "1H") + [call(1, "1C"), decide(0)]
        self.assertEqual(last(*rows, LEGALS), [0, 0] + from_bid("1S"))

    def test_to_be_mended_and_barred(self):
        rows = auction(0, "1H") + [call(1, "1C"), decide(0), call(3, "XX")]
        self.assertEqual(last(*rows, LEGALS), [0, 0])


class Barred(unittest.TestCase):

    def barred(self):
        """Seat 2 is barred, behind a bid of seat 3's; seat 0 is on turn."""
        return auction(3, "1C") + [call(0, "XX")]

    def test_only_passes(self):
        for text in ("X", "XX", "1C", "1D", "7N"):
            self.assertEqual(last(*self.barred(), call(2, text)), [-6])
            self.assertEqual(last(*self.barred(), call(0, "P"), call(1, "P"), call(2, text)), [-6])

    def test_passes_in_turn_and_stays_barred(self):
        rows = self.barred() + [call(0, "P"), call(1, "1H"), call(2, "P")]
        self.assertEqual(ask(*rows, TABLE)[-2:], [[0, 0], told(3, "1H", passes=1, held=(0, 0, 2, 0))])
        rows += [call(3, "P"), call(0, "1S"), call(1, "P")]
        self.assertEqual(last(*rows, call(2, "2C")), [-6])
        self.assertEqual(last(*rows, LEGALS), [0, 0])

    def test_passes_out_of_turn(self):
        rows = self.barred() + [call(2, "P")]
        self.assertEqual(ask(*rows, TABLE)[-2:], [[0, 2], told(0, "1C", waits=2, held=(0, 0, 2, 0))])
        self.assertEqual(last(*rows, decide(1), TABLE), told(3, "1C", passes=1, held=(0, 0, 2, 0)))
        self.assertEqual(ask(*rows, decide(0), TABLE)[-2:], [[0, 5], told(0, "1C", held=(0, 0, 2, 0))])

    def test_others_are_free(self):
        self.assertEqual(last(*self.barred(), call(0, "X")), [0, 0])
        self.assertEqual(last(*self.barred(), call(3, "1D")), [0, 2])


class MustPassOnce(unittest.TestCase):

    def once(self):
        """Seat 2 must pass once; seat 0 is on turn."""
        return auction(3, "1C") + [call(2, "P"), decide(0)]

    def test_shown(self):
        self.assertEqual(last(*self.once(), TABLE), told(0, "1C", held=(0, 0, 1, 0)))

    def test_only_passes(self):
        for text in ("X", "XX", "1C", "1D", "7N"):
            self.assertEqual(last(*self.once(), call(2, text)), [-6])
            self.assertEqual(last(*self.once(), call(0, "P"), call(1, "P"), call(2, text)), [-6])

    def test_free_behind_its_pass(self):
        rows = self.once() + [call(0, "1D"), call(1, "P"), call(2, "P")]
        self.assertEqual(last(*rows, TABLE), told(3, "1D", passes=2))
        rows += [call(3, "1H"), call(0, "P"), call(1, "P")]
        self.assertEqual(last(*rows, call(2, "X")), [0, 0])

    def test_held_while_others_call(self):
        self.assertEqual(last(*self.once(), call(0, "1D"), TABLE), told(1, "1D", held=(0, 0, 1, 0)))

    def test_out_of_turn_again(self):
        rows = self.once() + [call(2, "P")]
        self.assertEqual(last(*rows, TABLE), told(0, "1C", waits=2, held=(0, 0, 1, 0)))
        self.assertEqual(last(*rows, decide(1), TABLE), told(3, "1C", passes=1))
        self.assertEqual(ask(*rows, decide(0), TABLE)[-2:], [[0, 5], told(0, "1C", held=(0, 0, 1, 0))])

    def test_two_seats(self):
        rows = self.once() + [call(1, "P"), decide(0)]
        self.assertEqual(last(*rows, TABLE), told(0, "1C", held=(0, 1, 1, 0)))
        self.assertEqual(last(*rows, call(0, "P"), call(1, "P"), TABLE), told(2, "1C", passes=2, held=(0, 0, 1, 0)))

    def test_barred_is_shown_ahead(self):
        rows = self.once() + [call(0, "XX")]
        self.assertEqual(last(*rows, TABLE), told(0, "1C", held=(0, 0, 2, 0)))
        rows += [call(0, "P"), call(1, "1N"), call(2, "P")]
        self.assertEqual(last(*rows, TABLE), told(3, "1N", passes=1, held=(0, 0, 2, 0)))


class WithdrawnAtOnce(unittest.TestCase):

    def check(self, text, seat, word, held):
        before = last(*auction(0, text), TABLE)
        after = before[:8] + list(held)
        self.assertEqual(ask(*auction(0, text), call(seat, word), TABLE)[-2:], [[0, 3], after])

    def test_no_bid(self):
        for text in ("", "P", "P P P"):
            for word in ("X", "XX"):
                self.check(text, 0, word, (0, 0, 2, 0))
                self.check(text, 1, word, (0, 0, 0, 2))
                self.check(text, 2, word, (2, 0, 0, 0))
                self.check(text, 3, word, (0, 2, 0, 0))

    def test_double_of_own_side(self):
        for text in ("1C", "1C P", "1C P P"):
            self.check(text, 0, "X", (0, 0, 2, 0))
            self.check(text, 2, "X", (2, 0, 0, 0))

    def test_double_of_a_double(self):
        for seat, held in ((0, (0, 0, 2, 0)), (1, (0, 0, 0, 2)), (2, (2, 0, 0, 0)), (3, (0, 2, 0, 0))):
            self.check("1C X", seat, "X", held)
            self.check("1C X XX P", seat, "X", held)
            self.check("1C X XX P", seat, "XX", held)
            self.check("1C", seat, "XX", held)

    def test_redouble_of_own_side(self):
        for text in ("1C X", "1C X P", "1C X P P"):
            self.check(text, 1, "XX", (0, 0, 0, 2))
            self.check(text, 3, "XX", (0, 2, 0, 0))

    def test_both_partners(self):
        rows = [deal(0), call(0, "X"), call(1, "XX")]
        self.assertEqual(last(*rows, TABLE), told(0, held=(0, 0, 2, 2)))
        self.assertEqual(ask(*rows, call(2, "X"), call(3, "XX"))[-2:], [[-6], [-6]])

    def test_keeps_what_is_to_be_mended(self):
        rows = auction(0, "1H") + [call(1, "1C"), decide(0), call(0, "X")]
        self.assertEqual(ask(*rows, TABLE)[-2:], [[0, 3], told(1, "1H", mend=1, held=(0, 0, 2, 0))])

    def test_keeps_who_must_pass_once(self):
        rows = [deal(0), call(3, "P"), decide(0), call(1, "X")]
        self.assertEqual(last(*rows, TABLE), told(0, held=(0, 0, 0, 2)))
        rows = [deal(0), call(3, "P"), decide(0), call(0, "X")]
        self.assertEqual(last(*rows, TABLE), told(0, held=(0, 0, 2, 1)))


class OutOfTurn(unittest.TestCase):

    def test_waits(self):
        for seat, word in ((0, "P"), (2, "P"), (3, "P"), (0, "2C"), (2, "1C"), (3, "7N"), (3, "X")):
            rows = auction(0, "1H") + [call(seat, word)]
            self.assertEqual(ask(*rows, TABLE)[-2:], [[0, 2], told(1, "1H", waits=2)])

    def test_redouble_waits(self):
        rows = auction(0, "1H X") + [call(0, "XX")]
        self.assertEqual(ask(*rows, TABLE)[-2:], [[0, 2], told(2, "1H", 1, waits=2)])
        self.assertEqual(last(*rows, decide(1), TABLE), told(1, "1H", 2))
        self.assertEqual(last(*rows, decide(0), TABLE), told(2, "1H", 1, held=(0, 0, 2, 0)))

    def test_accepted(self):
        self.assertEqual(last(deal(0), call(2, "P"), decide(1), TABLE), told(3, passes=1))
        self.assertEqual(last(deal(0), call(3, "1C"), decide(1), TABLE), told(0, "1C"))
        self.assertEqual(last(*auction(0, "1C"), call(0, "1D"), decide(1), TABLE), told(1, "1D"))
        self.assertEqual(last(*auction(0, "1C"), call(3, "X"), decide(1), TABLE), told(0, "1C", 1))

    def test_too_low_and_accepted(self):
        rows = auction(0, "2C") + [call(2, "1C"), decide(1)]
        self.assertEqual(last(*rows, TABLE), told(3, "1C"))
        self.assertEqual(last(*rows, LEGALS), [0, 0, 1] + from_bid("1D"))

    def test_too_low_and_withdrawn_is_not_mended(self):
        rows = auction(0, "2C") + [call(2, "1C"), decide(0)]
        self.assertEqual(ask(*rows, TABLE)[-2:], [[0, 6], told(1, "2C", held=(2, 0, 0, 0))])

    def test_withdrawn(self):
        self.assertEqual(last(deal(0), call(2, "P"), decide(0), TABLE), told(0, held=(0, 0, 1, 0)))
        self.assertEqual(last(deal(0), call(2, "1C"), decide(0), TABLE), told(0, held=(2, 0, 0, 0)))
        self.assertEqual(last(*auction(0, "1C"), call(3, "X"), decide(0), TABLE), told(1, "1C", held=(0, 2, 0, 0)))

    def test_passes_may_end_it(self):
        rows = auction(0, "1C P") + [call(3, "P"), decide(1), call(3, "P"), decide(1)]
        self.assertEqual(last(*rows, TABLE), told(0, "1C", passes=3, over=1))
        rows = [deal(0)] + [call(2, "P"), decide(1)] * 4
        self.assertEqual(last(*rows, TABLE), told(3, passes=4, over=1))

    def test_doubles_behind_it(self):
        rows = auction(0, "1C") + [call(2, "1D"), decide(1)]
        self.assertEqual(last(*rows, call(3, "X")), [0, 0])
        rows = auction(0, "1C") + [call(0, "P"), decide(1), call(3, "P"), decide(1)]
        self.assertEqual(last(*rows, TABLE), told(0, "1C", passes=2))
        self.assertEqual(last(*rows, LEGALS), [0, 0] + from_bid("1D"))


class TooLow(unittest.TestCase):

    def low(self):
        return auction(0, "2H") + [call(1, "1S")]

    def test_waits(self):
        self.assertEqual(last(*self.low(), TABLE), told(1, "2H", waits=1))

    def test_accepted(self):
        rows = self.low() + [decide(1)]
        self.assertEqual(last(*rows, TABLE), told(2, "1S"))
        self.assertEqual(last(*rows, LEGALS), [0, 0, 1] + from_bid("1N"))
        self.assertEqual(last(*rows, call(2, "2C")), [0, 0])
        self.assertEqual(last(*rows, call(2, "1S")), [0, 1])

    def test_withdrawn(self):
        self.assertEqual(last(*self.low(), decide(0), TABLE), told(1, "2H", mend=1))


class Mending(unittest.TestCase):

    def low(self, word="1S"):
        """A bid of seat 1's is to be mended behind seat 0's two hearts."""
        return auction(0, "2H") + [call(1, word), decide(0)]

    def test_lowest_of_its_strain(self):
        for low, right in (("1S", "2S"), ("1N", "2N"), ("1C", "3C"), ("2D", "3D"), ("1H", "3H"), ("2H", "3H")):
            rows = self.low(low) + [call(1, right)]
            self.assertEqual(ask(*rows, TABLE)[-2:], [[0, 0], told(2, right)])

    def test_another_legal_bid(self):
        for word in ("2N", "3S", "3C", "7S", "7N"):
            rows = self.low() + [call(1, word)]
            self.assertEqual(ask(*rows, TABLE)[-2:], [[0, 0], told(2, word, held=(0, 0, 0, 2))])

    def test_a_pass(self):
        rows = self.low() + [call(1, "P")]
        self.assertEqual(ask(*rows, TABLE)[-2:], [[0, 0], told(2, "2H", passes=1, held=(0, 0, 0, 2))])

    def test_any_other_call(self):
        for word in ("X", "XX", "1C", "1S", "2D", "2H"):
            self.assertEqual(last(*self.low(), call(1, word)), [-8])

    def test_none_of_its_strain_left(self):
        rows = auction(0, "7S") + [call(1, "7S"), decide(0)]
        self.assertEqual(last(*rows, LEGALS), [0, 0, 37])
        self.assertEqual(last(*rows, call(1, "7N"), TABLE), told(2, "7N", held=(0, 0, 0, 2)))
        rows = auction(0, "7N") + [call(1, "1C"), decide(0)]
        self.assertEqual(last(*rows, LEGALS), [0, 0])
        self.assertEqual(last(*rows, call(1, "7N")), [-8])
        self.assertEqual(last(*rows, call(1, "P"), TABLE), told(2, "7N", passes=1, held=(0, 0, 0, 2)))

    def test_behind_a_withdrawn_call(self):
        rows = self.low() + [call(2, "P"), decide(0)]
        self.assertEqual(last(*rows, TABLE), told(1, "2H", mend=1, held=(0, 0, 1, 0)))
        rows += [call(0, "3C"), decide(0)]
        self.assertEqual(last(*rows, TABLE), told(1, "2H", mend=1, held=(0, 0, 2, 0)))
        self.assertEqual(last(*rows, call(1, "X")), [-8])
        self.assertEqual(last(*rows, call(1, "2S"), TABLE), told(2, "2S", held=(0, 0, 2, 0)))
        self.assertEqual(last(*rows, call(1, "2N"), TABLE), told(2, "2N", held=(0, 0, 2, 2)))

    def test_while_another_call_waits(self):
        rows = self.low() + [call(3, "X")]
        self.assertEqual(ask(*rows, TABLE)[-2:], [[0, 2], told(1, "2H", waits=2, mend=1)])

    def test_another_call_accepted(self):
        for seat, word in ((2, "P"), (3, "X"), (0, "3C"), (3, "2S"), (2, "1C")):
            rows = self.low() + [call(seat, word), decide(1)]
            found = last(*rows, TABLE)
            self.assertEqual(found[7:], [0, 0, 0, 0, 0])
            self.assertEqual(found[1], (seat + 1) % 4)

    def test_its_seat_barred_meanwhile(self):
        rows = self.low() + [call(3, "3C"), decide(0)]
        self.assertEqual(last(*rows, call(1, "2S")), [-6])
        self.assertEqual(last(*rows, call(1, "P"), TABLE), told(2, "2H", passes=1, held=(0, 2, 0, 2)))

    def test_nothing_more_to_mend(self):
        rows = self.low() + [call(1, "2S"), call(2, "P"), call(3, "P"), call(0, "X")]
        self.assertEqual(last(*rows, TABLE), told(1, "2S", 1))

    def test_twice(self):
        rows = self.low() + [call(1, "2S"), call(2, "2C"), decide(0)]
        self.assertEqual(last(*rows, TABLE), told(2, "2S", mend=1))
        self.assertEqual(last(*rows, call(2, "3C"), TABLE), told(3, "3C"))
        self.assertEqual(last(*rows, call(2, "3S"), TABLE), told(3, "3S", held=(2, 0, 0, 0)))


class Texts(unittest.TestCase):

    def test_numbers_of_calls(self):
        self.assertEqual(calls_of("P X XX 1C 1N 2C 7N"), [0, 1, 2, 3, 7, 8, 37])


if __name__ == "__main__":
    unittest.main()
