"""Short ways to write lines of calls and to read their answers."""

from bridgebids.table import answers

TABLE = (5,)
LEGALS = (6,)
CONTRACT = (7,)
WAYS = (8,)
LONGEST = (9,)
NUMBER = (10,)
TEXT = (12,)
MADE = (15,)

STRAINS = "CDHSN"
WORDS = ["P", "X", "XX"] + [level + strain for level in "1234567" for strain in STRAINS]

FAR = 1000000000000000000

# So many finished auctions there are.
ALL = (4 * 22 ** 35 - 1) // 3

# Three passes, then behind each bid the most that may stand there before a pass ends it: 319 calls.
LONG = "P P P " + " ".join(bid + " P P X P P XX P P" for bid in WORDS[3:]) + " P"


def number(text):
    """The call, as a number, that this text is: P, X, XX or a bid such as 1C."""
    if text in ("P", "X", "XX"):
        return ("P", "X", "XX").index(text)
    return 3 + bid(text)


def bid(text):
    """The bid, 0 to 34, that this text is."""
    return (int(text[0]) - 1) * 5 + STRAINS.index(text[1])


def deal(dealer=0, vulnerability=0):
    return (0, dealer, vulnerability)


def board(n):
    return (1, n)


def call(seat, text):
    return (2, seat, number(text))


def decide(y):
    return (3, y)


def undo(k):
    return (4, k)


def data(text):
    """A text as it stands in a row of its own: how many bytes, and these; a str or a list."""
    numbers = [ord(sign) for sign in text] if isinstance(text, str) else list(text)
    return (len(numbers),) + tuple(numbers)


def nth(dealer, text):
    return (11, dealer) + data(text)


def look(dealer, text):
    return (13, dealer) + data(text)


def read(dealer, text, vulnerability=0):
    return (14, dealer, vulnerability) + data(text)


def named(side, strain):
    return (16, side, STRAINS.index(strain))


def said(text):
    """The answer that tells this text."""
    return [0] + [ord(sign) for sign in text]


def auction(dealer, text):
    """A deal and these calls, turn by turn."""
    return [deal(dealer)] + [call((dealer + i) % 4, word) for i, word in enumerate(text.split())]


def begun_auctions():
    """Auctions that aren't over: made turn by turn, out of turn and too low."""
    texts = ("", "P", "P P P", "1C", "6S P", "7H P P", "7D X", "7D X P", "7D X P P", "7C X XX")
    begun = [auction(0, text) for text in texts]
    begun.append(auction(0, "7H P") + [call(3, "P"), decide(1)])
    begun.append(auction(0, "7H X P") + [call(0, "P"), decide(1)])
    begun.append(auction(0, "7H") + [call(1, "6H"), decide(1), call(3, "P"), decide(1)])
    return begun


def flat(rows):
    return [value for row in rows for value in row]


def ask(*rows):
    """What each of these calls answers, as a list of its own."""
    given = answers(flat(rows))
    found = []
    at = 0
    while at < len(given):
        found.append(given[at + 1:at + 1 + given[at]])
        at += 1 + given[at]
    assert at == len(given) and len(found) == len(rows)
    return found


def last(*rows):
    """What the last of these calls answers."""
    return ask(*rows)[-1]


def told(turn, last_bid=None, doubled=0, passes=0, over=0, waits=0, mend=0, held=(0, 0, 0, 0)):
    """What call 5 answers for a table like this."""
    shown = 0 if last_bid is None else bid(last_bid) + 1
    return [0, turn, shown, doubled, passes, over, waits, mend] + list(held)


def calls_of(text):
    return [number(word) for word in text.split()]


def ways(*rows):
    """The ways that these calls leave, read from the numeral's bytes."""
    return numeral(*rows, WAYS)


def numeral(*rows):
    """The number that the last of these calls answers as a numeral's bytes."""
    answer = last(*rows)
    assert answer[0] == 0 and len(answer) > 1
    digits = "".join(chr(byte) for byte in answer[1:])
    assert digits.isdigit() and (digits[0] != "0" or digits == "0")
    return int(digits)


def above(bids):
    """The ways that begin with one of so many highest bids: 7 behind the highest, 22 times as many for each below."""
    return (22 ** bids - 1) // 3
