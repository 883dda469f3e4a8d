"""Short ways to write lines of calls and to read their answers."""

from bridgebids.table import answers

TABLE = (5,)
LEGALS = (6,)
CONTRACT = (7,)
WAYS = (8,)

STRAINS = "CDHSN"


def number(text):
    """The call, as a number, that this text is: P, X, XX or a bid such as 1C."""
    if text in ("P", "X", "XX"):
        return ("P", "X", "XX").index(text)
    return 3 + bid(text)


def bid(text):
    """The bid, 0 to 34, that this text is."""
    return (int(text[0]) - 1) * 5 + STRAINS.index(text[1])


def deal(dealer=0, vulnerability=0):
    return (0, dealer, vulnerability)


def board(n):
    return (1, n)


def call(seat, text):
    return (2, seat, number(text))


def decide(y):
    return (3, y)


def undo(k):
    return (4, k)


def auction(dealer, text):
    """A deal and these calls, turn by turn."""
    return [deal(dealer)] + [call((dealer + i) % 4, word) for i, word in enumerate(text.split())]


def flat(rows):
    return [value for row in rows for value in row]


def ask(*rows):
    """What each of these calls answers, as a list of its own."""
    given = answers(flat(rows))
    found = []
    at = 0
    while at < len(given):
        found.append(given[at + 1:at + 1 + given[at]])
        at += 1 + given[at]
    assert at == len(given) and len(found) == len(rows)
    return found


def last(*rows):
    """What the last of these calls answers."""
    return ask(*rows)[-1]


def told(turn, last_bid=None, doubled=0, passes=0, over=0, waits=0, mend=0, held=(0, 0, 0, 0)):
    """What call 5 answers for a table like this."""
    shown = 0 if last_bid is None else bid(last_bid) + 1
    return [0, turn, shown, doubled, passes, over, waits, mend] + list(held)


def calls_of(text):
    return [number(word) for word in text.split()]


def ways(*rows):
    """The ways that these calls leave, read from the numeral's bytes."""
    answer = last(*rows, WAYS)
    assert answer[0] == 0 and len(answer) > 1
    digits = "".join(chr(byte) for byte in answer[1:])
    assert digits.isdigit() and (digits[0] != "0" or digits == "0")
    return int(digits)
