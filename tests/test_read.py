"""Point 14: read, and how what was read counts at points 2, 3 and 4."""

import unittest

from tests.asking import (CONTRACT, FAR, LEGALS, LONG, LONGEST, MADE, NUMBER, TABLE, TEXT, WAYS, ask, auction, bid,
                          call, calls_of, deal, decide, last, look, named, read, said, told, undo)


class Read(unittest.TestCase):

    def test_how_many(self):
        for dealer in range(4):
            for vulnerability in range(4):
                for text in ("", "P", "P P P P", "1C X XX P", "7N P P P", LONG):
                    self.assertEqual(ask(read(dealer, text, vulnerability)), [[0, len(text.split())]])

    def test_as_written(self):
        self.assertEqual(ask((14, 3, 1, 6, 49, 67, 32, 88, 32, 80), TABLE),
                         [[0, 3], [0, 2, 1, 1, 1, 0, 0, 0, 0, 0, 0, 0]])
        self.assertEqual(ask((14, 3, 1, 0), TABLE), [[0, 0], [0, 3, 0, 0, 0, 0, 0, 0, 0, 0, 0, 0]])

    def test_like_the_calls_one_by_one(self):
        reads = [TABLE, LEGALS, CONTRACT, WAYS, LONGEST, NUMBER, TEXT, MADE, named(0, "C"), named(1, "N")]
        for dealer in range(4):
            for text in ("", "P P P", "P P P P", "1C X XX 1N", "P 1C 1N P 2C P 7N X P P P", LONG):
                made = auction(dealer, text)
                self.assertEqual(ask(read(dealer, text), *reads)[1:], ask(*made, *reads)[len(made):])

    def test_calls_are_made_in_turn_from_the_dealer(self):
        for dealer in range(4):
            self.assertEqual(last(read(dealer, "P 1C X"), MADE),
                             [0, dealer, 0, (dealer + 1) % 4, 3, (dealer + 2) % 4, 1])

    def test_what_was_before_is_gone(self):
        rows = [deal(0), call(0, "X"), call(3, "P"), decide(0), call(0, "2C"), call(1, "1C"), decide(0), call(3, "P")]
        self.assertEqual(last(*rows, TABLE), told(1, "2C", waits=2, mend=1, held=(0, 0, 2, 1)))
        self.assertEqual(ask(*rows, read(1, "P 1H"), TABLE, TEXT)[-3:], [[0, 2], told(3, "1H"), said("P 1H")])
        self.assertEqual(ask(*rows, read(2, ""), TABLE, TEXT, undo(1))[-4:], [[0, 0], told(2), [0], [-14]])
        self.assertEqual(ask(read(0, LONG), read(1, "1C"), TEXT, undo(2), undo(1), TABLE),
                         [[0, 319], [0, 1], said("1C"), [-14], [0], told(1)])

    def test_something_wrong(self):
        for text in ("Q", " ", " P", "P ", "P  P", "P P P P P", "P P P P ", "1C 1C", "X", "1C P X", "1d", "P,P",
                     "7N P P P X", "P" * 1000, " " * 1000, "P " * 500, LONG + " P", "\0", "\xff"):
            for dealer in range(4):
                self.assertEqual(ask(read(dealer, text)), [[-12]], text)

    def test_refused_just_where_look_tells_something_wrong(self):
        for text in ("", "P", "P P", "P P P P", "P P P P P", "1C X", "1C XX", "1C X XX 1C", "1C X XX 1D", "8C",
                     LONG[:-1]):
            wrong = last(look(0, text))[1] != 0
            self.assertEqual(last(read(0, text)) == [-12], wrong, text)

    def test_refused_read_begins_none(self):
        self.assertEqual(ask(read(0, "Q"), TABLE, read(4, "P"), TABLE), [[-12], [-3], [-1], [-3]])

    def test_refused_read_changes_nothing(self):
        rows = auction(2, "1D") + [call(3, "1C"), decide(0), call(0, "1H")]
        before = last(*rows, TABLE)
        self.assertEqual(before, told(3, "1D", waits=2, mend=1))
        for refused, number in ((read(0, "P X"), -12), (read(0, "P P P P P"), -12), (read(0, "P  "), -12),
                                (read(4, "P"), -1), (read(0, "P", 4), -1), (read(0, [80, 32, 256]), -1)):
            found = ask(*rows, refused, TABLE, TEXT, undo(4), TABLE, undo(1))
            self.assertEqual(found[-6:], [[number], before, said("1D"), [0], told(2), [-14]])
            found = ask(*rows, refused, decide(0), call(3, "2C"), TABLE)
            self.assertEqual(found[-4:], [[number], [0, 6], [0, 0], told(0, "2C", held=(0, 0, 2, 0))])

    def test_out_of_range(self):
        for wrong in (-1, 4, FAR, -FAR):
            for text in ("", "P", "Q", " " * 1000):
                self.assertEqual(ask(read(wrong, text)), [[-1]])
                self.assertEqual(ask(read(0, text, wrong)), [[-1]])
        for wrong in (-1, 256, FAR, -FAR):
            for numbers in ([wrong], [80, 32, wrong], [wrong, 32, 80], [81, 32, 80, wrong], [32] * 999 + [wrong],
                            [wrong] + [80] * 999):
                self.assertEqual(ask(read(1, numbers)), [[-1]])
                self.assertEqual(last(deal(0), read(1, numbers)), [-1])


class TableBehindRead(unittest.TestCase):

    def test_takes_calls_and_decisions(self):
        self.assertEqual(ask(read(3, "1C X"), call(1, "XX"), call(2, "1C"), decide(0), call(2, "1H"), TABLE, TEXT),
                         [[0, 2], [0, 0], [0, 1], [0, 4], [0, 0], told(3, "1H", held=(2, 0, 0, 0)), said("1C X XX 1H")])
        self.assertEqual(ask(read(0, "1D"), call(2, "P"), decide(1), TABLE),
                         [[0, 1], [0, 2], [0, 0], told(3, "1D", passes=1)])

    def test_over(self):
        self.assertEqual(ask(read(0, "1C P P P"), call(0, "P"), CONTRACT), [[0, 4], [-4], [0, bid("1C"), 0, 0, 1, 2]])
        self.assertEqual(ask(read(0, "1C P P P"), undo(1), call(3, "X"), CONTRACT), [[0, 4], [0], [0, 0], [-10]])

    def test_undone_one_by_one(self):
        words = "P 1C X P P XX P 1D".split()
        for kept in range(len(words) + 1):
            found = ask(read(1, " ".join(words)), undo(len(words) - kept), TEXT, undo(kept + 1), undo(kept), TABLE)
            self.assertEqual(found[1:], [[0], said(" ".join(words[:kept])), [-14], [0], told(1)])

    def test_undone_with_calls_and_decisions(self):
        rows = [read(0, "P 1D"), call(2, "1C"), decide(0), call(2, "P")]
        self.assertEqual(ask(*rows, undo(6), undo(4), TABLE, undo(1), undo(0), TEXT)[-6:],
                         [[-14], [0], told(1, passes=1), [0], [0], [0]])
        self.assertEqual(ask(*rows, undo(5), TABLE)[-2:], [[0], told(0)])

    def test_all_undone(self):
        self.assertEqual(ask(read(2, LONG), undo(320), undo(319), TABLE, undo(1)),
                         [[0, 319], [-14], [0], told(2), [-14]])

    def test_calls_read_count_as_done(self):
        words = LONG.split()
        begun = read(0, " ".join(words[:318]))
        # 318 and these two are 320; what isn't refused ahead of it is refused then.
        rows = [begun, call(1, "P"), decide(0)]
        self.assertEqual(ask(*rows)[1:], [[0, 2], [0, 5]])
        self.assertEqual(ask(*rows, call(2, "P"), call(1, "P"), decide(0), undo(321), undo(320), TABLE)[3:],
                         [[-9], [-9], [-7], [-14], [0], told(0)])
        self.assertEqual(ask(*rows, undo(1), call(0, "P"), decide(1))[-3:], [[0], [-5], [0, 0]])

    def test_decisions_behind_read_count_as_done(self):
        words = LONG.split()
        begun = read(0, " ".join(words[:317]))
        rows = [begun, call(0, "P"), decide(0), call(0, "P")]
        self.assertEqual(ask(*rows, decide(1), decide(0), undo(1), call(0, "P"), decide(0))[1:],
                         [[0, 2], [0, 5], [0, 2], [-9], [-9], [0], [0, 2], [-9]])

    def test_refused_read_counts_nothing(self):
        rows = [read(0, "P P"), read(0, "P P P P P"), read(0, "P P Q")]
        self.assertEqual(ask(*rows, undo(3), undo(2), TABLE)[-3:], [[-14], [0], told(0)])

    def test_undone_and_made_anew(self):
        self.assertEqual(ask(read(0, "1C P 1H"), undo(1), call(2, "1S"), TEXT)[-2:], [[0, 0], said("1C P 1S")])

    def test_calls_of_the_text(self):
        for dealer in range(4):
            found = last(read(dealer, LONG), MADE)
            self.assertEqual(found[2::2], calls_of(LONG))
            self.assertEqual(found[1::2], [(dealer + i) % 4 for i in range(319)])


if __name__ == "__main__":
    unittest.main()
