"""Points 15 and 16: made and named."""

import unittest

from tests.asking import (FAR, LONG, MADE, STRAINS, TABLE, ask, auction, call, deal, decide, last, named, number, read,
                          undo)


class Made(unittest.TestCase):

    def test_no_calls(self):
        for dealer in range(4):
            self.assertEqual(last(deal(dealer), MADE), [0])

    def test_turn_by_turn(self):
        self.assertEqual(last(*auction(0, "P"), MADE), [0, 0, 0])
        self.assertEqual(last(*auction(3, "P 1C X XX 7N"), MADE), [0, 3, 0, 0, 3, 1, 1, 2, 2, 3, 37])

    def test_longest(self):
        found = last(*auction(1, LONG), MADE)
        self.assertEqual(len(found), 1 + 2 * 319)
        self.assertEqual(found, last(read(1, LONG), MADE))

    def test_accepted_out_of_turn(self):
        rows = [deal(0), call(2, "1C"), decide(1), call(1, "X"), decide(1), call(2, "XX"), call(2, "P"), decide(1)]
        self.assertEqual(last(*rows, MADE), [0, 2, 3, 1, 1, 2, 2, 2, 0])

    def test_accepted_too_low(self):
        rows = auction(0, "2C") + [call(1, "1N"), decide(1), call(2, "2C")]
        self.assertEqual(last(*rows, MADE), [0, 0, number("2C"), 1, number("1N"), 2, number("2C")])

    def test_waiting_and_withdrawn_are_not_told(self):
        self.assertEqual(last(deal(0), call(2, "1C"), MADE), [0])
        self.assertEqual(last(deal(0), call(2, "1C"), decide(0), MADE), [0])
        self.assertEqual(last(*auction(0, "2C"), call(1, "1C"), MADE), [0, 0, number("2C")])
        self.assertEqual(last(*auction(0, "2C"), call(1, "1C"), decide(0), call(1, "P"), MADE),
                         [0, 0, number("2C"), 1, 0])
        self.assertEqual(last(*auction(0, "2C"), call(0, "X"), MADE), [0, 0, number("2C")])

    def test_undone(self):
        self.assertEqual(ask(*auction(0, "P 1C"), MADE, undo(1), MADE)[-3:], [[0, 0, 0, 1, 3], [0], [0, 0, 0]])

    def test_no_auction(self):
        self.assertEqual(ask(MADE, deal(4), MADE), [[-3], [-1], [-3]])

    def test_changes_nothing(self):
        rows = auction(0, "P 1C")
        before = last(*rows, TABLE)
        self.assertEqual(ask(*rows, MADE, MADE, TABLE)[-3:], [[0, 0, 0, 1, 3], [0, 0, 0, 1, 3], before])


class Named(unittest.TestCase):

    def check(self, rows, found):
        """found: for side 0 and side 1, what's answered for each strain."""
        asked = [named(side, strain) for side in range(2) for strain in STRAINS]
        self.assertEqual(ask(*rows, *asked)[-10:], [[0, seat] for side in found for seat in side])

    def test_no_calls(self):
        for dealer in range(4):
            self.check([deal(dealer)], [[0] * 5, [0] * 5])

    def test_no_bids(self):
        self.check(auction(0, "P P P P"), [[0] * 5, [0] * 5])
        self.check(auction(0, "P P P"), [[0] * 5, [0] * 5])

    def test_each_seat_and_strain(self):
        for dealer in range(4):
            for place, strain in enumerate(STRAINS):
                for level in "147":
                    found = [[0] * 5, [0] * 5]
                    found[dealer % 2][place] = dealer + 1
                    self.check(auction(dealer, level + strain), found)
                    self.check(auction(dealer, level + strain + " X XX P P P"), found)

    def test_first_of_its_side(self):
        self.check(auction(0, "1C P 2C"), [[1, 0, 0, 0, 0], [0] * 5])
        self.check(auction(0, "P P 1C P 2C"), [[3, 0, 0, 0, 0], [0] * 5])
        self.check(auction(0, "1C 1D 2C 2D 3C 3D"), [[1, 0, 0, 0, 0], [0, 2, 0, 0, 0]])
        self.check(auction(0, "P P P 1S P 4S"), [[0] * 5, [0, 0, 0, 4, 0]])

    def test_both_sides_the_same_strain(self):
        self.check(auction(0, "1C 2C 3C 4C"), [[1, 0, 0, 0, 0], [2, 0, 0, 0, 0]])
        self.check(auction(2, "1N 2N 3N"), [[0, 0, 0, 0, 3], [0, 0, 0, 0, 4]])

    def test_all_strains(self):
        self.check(auction(0, "1C 1D 1H 1S 1N 2C 2D 2H 2S 2N"), [[1, 3, 3, 1, 1], [2, 2, 4, 4, 2]])

    def test_accepted_out_of_turn(self):
        self.check([deal(0), call(2, "1C"), decide(1)], [[3, 0, 0, 0, 0], [0] * 5])
        self.check([deal(0), call(3, "1H"), decide(1), call(1, "2H"), decide(1)], [[0] * 5, [0, 0, 4, 0, 0]])

    def test_accepted_too_low(self):
        self.check(auction(0, "2C") + [call(1, "1N"), decide(1), call(2, "1C"), decide(1)],
                   [[1, 0, 0, 0, 0], [0, 0, 0, 0, 2]])

    def test_waiting_and_withdrawn_name_nothing(self):
        self.check([deal(0), call(2, "1C")], [[0] * 5, [0] * 5])
        self.check([deal(0), call(2, "1C"), decide(0), call(0, "P")], [[0] * 5, [0] * 5])
        self.check(auction(0, "2C") + [call(1, "1D"), decide(0), call(1, "2D")], [[1, 0, 0, 0, 0], [0, 2, 0, 0, 0]])
        self.check(auction(0, "2C") + [call(1, "1H"), decide(0), call(1, "P")], [[1, 0, 0, 0, 0], [0] * 5])

    def test_undone(self):
        self.check(auction(0, "1C 1D") + [undo(1)], [[1, 0, 0, 0, 0], [0] * 5])
        self.check(auction(0, "1C P 2C") + [undo(3), call(0, "P"), call(1, "P"), call(2, "1C")],
                   [[3, 0, 0, 0, 0], [0] * 5])

    def test_read(self):
        self.check([read(1, "1C 2H 3C 4H")], [[0, 0, 3, 0, 0], [2, 0, 0, 0, 0]])

    def test_while_over_and_while_a_call_waits(self):
        self.check(auction(0, "1C P P P"), [[1, 0, 0, 0, 0], [0] * 5])
        self.check(auction(0, "1C") + [call(3, "1S")], [[1, 0, 0, 0, 0], [0] * 5])

    def test_out_of_range(self):
        for row in ((16, -1, 0), (16, 2, 0), (16, 0, -1), (16, 0, 5), (16, FAR, 0), (16, 1, -FAR), (16, 2, 5)):
            self.assertEqual(ask(row), [[-1]])
            self.assertEqual(last(*auction(0, "1C"), row), [-1])

    def test_no_auction(self):
        self.assertEqual(ask(named(0, "C"), deal(0, -1), named(1, "N")), [[-3], [-1], [-3]])

    def test_changes_nothing(self):
        rows = auction(0, "P 1C")
        before = last(*rows, TABLE)
        self.assertEqual(ask(*rows, named(1, "C"), named(0, "C"), (16, 2, 0), TABLE)[-4:],
                         [[0, 2], [0, 0], [-1], before])


if __name__ == "__main__":
    unittest.main()
