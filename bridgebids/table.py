"""The calls on one table, read from a list of whole numbers and answered in one."""

from bridgebids.auction import Auction
from bridgebids.counting import longest_on
from bridgebids.counting import ways_above
from bridgebids.counting import ways_on
from bridgebids.numbering import auction_with
from bridgebids.numbering import number_of
from bridgebids.position import Position
from bridgebids.texts import RIGHT
from bridgebids.texts import auction_text
from bridgebids.texts import make_words
from bridgebids.texts import number_told
from bridgebids.texts import numeral

MOST_DONE = 320


class Session:
    """One object: the positions of its table from the deal to now, none if there's no auction.

    Each call and decision done adds a position, so that undo has only to drop them.
    """

    def __init__(self):
        self.positions = []

    def start(self, dealer, vulnerability):
        """Begin a new auction; what was before is gone."""
        self.positions = [Position(dealer, vulnerability)]

    def now(self):
        """The position that the table is in."""
        return self.positions[-1]

    def done(self):
        """How many calls and decisions were done at this table."""
        return len(self.positions) - 1

    def go_on(self):
        """Add a position like the one now, to be changed by what is done next."""
        self.positions.append(self.now().copied())
        return self.now()


def answer_deal(session, plain, text):
    """Call 0: a new auction."""
    session.start(plain[0], plain[1])
    return [0]


def answer_board(session, plain, text):
    """Call 1: a new auction for a board."""
    dealer = (plain[0] + 3) % 4
    vulnerability = (dealer + (plain[0] + 15) // 4) % 4
    session.start(dealer, vulnerability)
    return [0, dealer, vulnerability]


def answer_call(session, plain, text):
    """Call 2: a seat calls."""
    refused = session.now().why_no_call(plain[0], plain[1])
    if refused < 0:
        return [refused]
    if session.done() >= MOST_DONE:
        return [-9]
    return [0, session.go_on().take_call(plain[0], plain[1])]


def answer_decide(session, plain, text):
    """Call 3: the call that waits is accepted or withdrawn."""
    if session.now().waiting is None:
        return [-7]
    if session.done() >= MOST_DONE:
        return [-9]
    position = session.go_on()
    return [0, position.accept() if plain[0] == 1 else position.withdraw()]


def answer_undo(session, plain, text):
    """Call 4: the table as it was before the last calls and decisions."""
    left = session.done() - plain[0]
    if left < 0:
        return [-14]
    session.positions = session.positions[:left + 1]
    return [0]


def answer_table(session, plain, text):
    """Call 5: how the table stands."""
    return [0] + session.now().told()


def answer_legals(session, plain, text):
    """Call 6: what the seat on turn may call."""
    if session.now().waiting is not None:
        return [-5]
    return [0] + session.now().legals()


def answer_contract(session, plain, text):
    """Call 7: the contract."""
    auction = session.now().auction
    if not auction.over():
        return [-10]
    return [0] + auction.contract()


def answer_ways(session, plain, text):
    """Call 8: in how many ways it may go on."""
    if session.now().waiting is not None:
        return [-5]
    return [0] + numeral(ways_on(session.now().auction, ways_above()))


def answer_longest(session, plain, text):
    """Call 9: how many calls the longest of these ways has."""
    if session.now().waiting is not None:
        return [-5]
    return [0, longest_on(session.now().auction)]


def answer_number(session, plain, text):
    """Call 10: the number of the auction."""
    auction = session.now().auction
    if not auction.over():
        return [-10]
    number = number_of(auction)
    return [-11] if number is None else [0] + numeral(number)


def answer_nth(session, plain, text):
    """Call 11: the text of the auction with a number."""
    number = number_told(text)
    if number is None:
        return [-12]
    auction = auction_with(plain[0], number)
    return [-13] if auction is None else [0] + auction_text(auction)


def answer_text(session, plain, text):
    """Call 12: the text of the calls made."""
    return [0] + auction_text(session.now().auction)


def answer_look(session, plain, text):
    """Call 13: what is wrong in a text, and where; or how many calls it tells."""
    return [0] + make_words(Auction(plain[0]), text)


def answer_read(session, plain, text):
    """Call 14: a new auction with the calls that a text tells."""
    auction = Auction(plain[0])
    found = make_words(auction, text)
    if found[0] != RIGHT:
        return [-12]
    session.start(plain[0], plain[1])
    for seat, call in auction.made:
        session.go_on().take_call(seat, call)
    return [0, found[1]]


def answer_made(session, plain, text):
    """Call 15: the calls made, each behind its seat."""
    told = [0]
    for seat, call in session.now().auction.made:
        told.extend([seat, call])
    return told


def answer_named(session, plain, text):
    """Call 16: 1 more than the seat that named a strain first for its side; 0 if none did."""
    seat = session.now().auction.first_to_bid(plain[0], plain[1])
    return [0, 0 if seat is None else seat + 1]


# By a call's number: the least and the most of each of its plain arguments.
RANGES = (
    ((0, 3), (0, 3)),
    ((1, 1000000000),),
    ((0, 3), (0, 37)),
    ((0, 1),),
    ((0, 400),),
    (),
    (),
    (),
    (),
    (),
    (),
    ((0, 3),),
    (),
    ((0, 3),),
    ((0, 3), (0, 3)),
    (),
    ((0, 1), (0, 4)),
)

ANSWERERS = (
    answer_deal,
    answer_board,
    answer_call,
    answer_decide,
    answer_undo,
    answer_table,
    answer_legals,
    answer_contract,
    answer_ways,
    answer_longest,
    answer_number,
    answer_nth,
    answer_text,
    answer_look,
    answer_read,
    answer_made,
    answer_named,
)

WITH_TEXT = (11, 13, 14)

WITHOUT_AUCTION = (0, 1, 11, 13, 14)

GREATEST_BYTE = 255


def in_ranges(place, plain, text):
    """Whether each plain argument is in its range, and each number of the text a byte."""
    for value, bounds in zip(plain, RANGES[place]):
        if value < bounds[0] or value > bounds[1]:
            return False
    return all([0 <= value <= GREATEST_BYTE for value in text])


def answer_one(session, place, plain, text):
    """What one call answers: a refusal alone, or 0 and what's told."""
    if not in_ranges(place, plain, text):
        return [-1]
    if len(session.positions) == 0 and place not in WITHOUT_AUCTION:
        return [-3]
    return ANSWERERS[place](session, plain, text)


def answers(calls):
    """Answer the calls on one new object: for each, how many numbers it answers, and these."""
    session = Session()
    given = []
    at = 0
    while at < len(calls):
        place = calls[at]
        behind = at + 1 + len(RANGES[place])
        plain = calls[at + 1:behind]
        text = []
        if place in WITH_TEXT:
            begin = behind + 1
            behind = begin + calls[behind]
            text = calls[begin:behind]
        answer = answer_one(session, place, plain, text)
        given.append(len(answer))
        given.extend(answer)
        at = behind
    return given
