"""The calls on one table, read from a list of whole numbers and answered in one."""

from bridgebids.counting import ways_on
from bridgebids.position import Position

MOST_DONE = 320


class Session:
    """One object: the positions of its table from the deal to now, none if there's no auction.

    Each call and decision done adds a position, so that undo has only to drop them.
    """

    def __init__(self):
        self.positions = []

    def start(self, dealer, vulnerability):
        """Begin a new auction; what was before is gone."""
        self.positions = [Position(dealer, vulnerability)]

    def now(self):
        """The position that the table is in."""
        return self.positions[-1]

    def done(self):
        """How many calls and decisions were done at this table."""
        return len(self.positions) - 1

    def go_on(self):
        """Add a position like the one now, to be changed by what is done next."""
        self.positions.append(self.now().copied())
        return self.now()


def answer_deal(session, plain):
    """Call 0: a new auction."""
    session.start(plain[0], plain[1])
    return [0]


def answer_board(session, plain):
    """Call 1: a new auction for a board."""
    dealer = (plain[0] + 3) % 4
    vulnerability = (dealer + (plain[0] + 15) // 4) % 4
    session.start(dealer, vulnerability)
    return [0, dealer, vulnerability]


def answer_call(session, plain):
    """Call 2: a seat calls."""
    refused = session.now().why_no_call(plain[0], plain[1])
    if refused < 0:
        return [refused]
    if session.done() >= MOST_DONE:
        return [-9]
    return [0, session.go_on().take_call(plain[0], plain[1])]


def answer_decide(session, plain):
    """Call 3: the call that waits is accepted or withdrawn."""
    if session.now().waiting is None:
        return [-7]
    if session.done() >= MOST_DONE:
        return [-9]
    position = session.go_on()
    return [0, position.accept() if plain[0] == 1 else position.withdraw()]


def answer_undo(session, plain):
    """Call 4: the table as it was before the last calls and decisions."""
    left = session.done() - plain[0]
    if left < 0:
        return [-14]
    session.positions = session.positions[:left + 1]
    return [0]


def answer_table(session, plain):
    """Call 5: how the table stands."""
    return [0] + session.now().told()


def answer_legals(session, plain):
    """Call 6: what the seat on turn may call."""
    if session.now().waiting is not None:
        return [-5]
    return [0] + session.now().legals()


def answer_contract(session, plain):
    """Call 7: the contract."""
    auction = session.now().auction
    if not auction.over():
        return [-10]
    return [0] + auction.contract()


def answer_ways(session, plain):
    """Call 8: in how many ways it may go on."""
    if session.now().waiting is not None:
        return [-5]
    return [0] + [ord(digit) for digit in str(ways_on(session.now().auction))]


# By a call's number: the least and the most of each of its plain arguments.
RANGES = (
    ((0, 3), (0, 3)),
    ((1, 1000000000),),
    ((0, 3), (0, 37)),
    ((0, 1),),
    ((0, 400),),
    (),
    (),
    (),
    (),
)

ANSWERERS = (
    answer_deal,
    answer_board,
    answer_call,
    answer_decide,
    answer_undo,
    answer_table,
    answer_legals,
    answer_contract,
    answer_ways,
)

WITHOUT_AUCTION = (0, 1)


def in_ranges(place, plain):
    """Whether each plain argument is in its range."""
    for value, bounds in zip(plain, RANGES[place]):
        if value < bounds[0] or value > bounds[1]:
            return False
    return True


def answer_one(session, place, plain):
    """What one call answers: a refusal alone, or 0 and what's told."""
    if not in_ranges(place, plain):
        return [-1]
    if len(session.positions) == 0 and place not in WITHOUT_AUCTION:
        return [-3]
    return ANSWERERS[place](session, plain)


def answers(calls):
    """Answer the calls on one new object: for each, how many numbers it answers, and these."""
    session = Session()
    given = []
    at = 0
    while at < len(calls):
        place = calls[at]
        behind = at + 1 + len(RANGES[place])
        answer = answer_one(session, place, calls[at + 1:behind])
        given.append(len(answer))
        given.extend(answer)
        at = behind
    return given
