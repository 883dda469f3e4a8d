"""Lines of up to 400 calls, all kinds together."""

import unittest

from bridgebids.table import answers
from tests.asking import (ALL, CONTRACT, LEGALS, LONGEST, MADE, NUMBER, TABLE, TEXT, WAYS, above, ask, board, call,
                          deal, decide, flat, look, named, nth, number, read, said, told, undo)


def digits(found):
    return [0] + [ord(digit) for digit in str(found)]


def block(dealer):
    """Calls of every kind from this dealer, each with what it answers."""
    first, second, third, fourth = [(dealer + i) % 4 for i in range(4)]
    side = dealer % 2
    held = [0, 0, 0, 0]
    held[third] = 2
    end = "7N X XX P P P"
    return [
        (deal(dealer, 3 - dealer), [0]),
        (TEXT, [0]), (MADE, [0]), (named(1 - side, "N"), [0, 0]), (NUMBER, [-10]),
        (LONGEST, [0, 319]), (WAYS, digits(ALL)),
        (call(first, "P"), [0, 0]), (call(third, "1C"), [0, 2]),
        (WAYS, [-5]), (LONGEST, [-5]), (LEGALS, [-5]), (TEXT, said("P")),
        (decide(1), [0, 0]), (TABLE, told(fourth, "1C")), (LONGEST, [0, 315]), (WAYS, digits(7 + 21 * above(34))),
        (call(fourth, "X"), [0, 0]), (call(first, "1C"), [0, 1]), (call(second, "P"), [-5]), (decide(0), [0, 4]),
        (LEGALS, [0, 0] + list(range(number("1D"), 38))),
        (call(first, "XX"), [-8]), (call(first, "1D"), [0, 0]), (decide(0), [-7]),
        (MADE, [0, first, 0, third, 3, fourth, 1, first, 4]),
        (named(side, "C"), [0, third + 1]), (named(side, "D"), [0, first + 1]), (named(1 - side, "C"), [0, 0]),
        (look(dealer, "P 1C X"), [0, 0, 3]), (look(dealer, "P 1C  X"), [0, 1, 5]), (look(dealer, [80, 256]), [-1]),
        (call(second, "P"), [0, 0]), (call(third, "X"), [-6]), (call(third, "P"), [0, 0]), (call(fourth, "P"), [0, 0]),
        (TABLE, told(first, "1D", passes=3, over=1, held=held)), (call(first, "P"), [-4]),
        (CONTRACT, [0, 1, 0, first, second, third]), (NUMBER, [-11]), (WAYS, [0, 49]), (LONGEST, [0, 0]),
        (read(dealer, end + " P"), [-12]), (TEXT, said("P 1C X 1D P P P")),
        (read(dealer, end, dealer), [0, 6]), (NUMBER, digits(ALL - 1)), (nth(third, str(ALL - 1)), said(end)),
        (nth(fourth, str(ALL)), [-13]), (nth(second, "01"), [-12]), (TEXT, said(end)),
        (undo(7), [-14]), (undo(6), [0]), (TABLE, told(dealer)),
        (board(dealer + 1), [0, dealer, dealer]), (undo(1), [-14]), (call(dealer, "X"), [0, 3]),
    ]


class Lines(unittest.TestCase):

    def line(self):
        """400 calls, with what each answers."""
        pairs = []
        while len(pairs) < 400:
            pairs += block(len(pairs) % 4) + block((len(pairs) + 3) % 4) + block(2) + block(1)
        return pairs[:400]

    def test_each_block_alone(self):
        for dealer in range(4):
            pairs = block(dealer)
            self.assertEqual(ask(*[row for row, found in pairs]), [found for row, found in pairs])

    def test_every_kind(self):
        self.assertEqual(sorted({row[0] for row, found in block(0)}), list(range(17)))

    def test_four_hundred(self):
        pairs = self.line()
        self.assertEqual(len(pairs), 400)
        self.assertEqual(ask(*[row for row, found in pairs]), [found for row, found in pairs])

    def test_begun_is_answered_alike(self):
        rows = [row for row, found in self.line()]
        whole = answers(flat(rows))
        for length in range(1, 400, 7):
            given = answers(flat(rows[:length]))
            self.assertEqual(given, whole[:len(given)])

    def test_reads_between_change_nothing(self):
        pairs = block(3)
        between = [LONGEST, NUMBER, nth(0, "7"), TEXT, look(2, "P P"), MADE]
        rows = flat([[row] + between for row, found in pairs])
        self.assertLessEqual(len(rows), 400)
        self.assertEqual(ask(*rows)[::7], [found for row, found in pairs])

    def test_refusals_between_change_nothing(self):
        pairs = block(2)
        between = [(0, 4, 0), (11, 0, 0), (13, 0, 1, 256), (14, 0, 0, 1, 32), (14, 0, 4, 1, 80), (16, 0, 5)]
        rows = flat([[row] + between for row, found in pairs])
        given = ask(*rows)
        self.assertEqual(given[::7], [found for row, found in pairs])
        for place, number_given in enumerate([-1, -12, -1, -12, -1, -1]):
            self.assertEqual(given[1 + place::7], [[number_given]] * len(pairs))


if __name__ == "__main__":
    unittest.main()
