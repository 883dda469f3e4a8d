"""A table at one moment: the auction, who is held to pass, what waits, what is to be mended."""

from bridgebids.auction import Auction
from bridgebids.auction import CALLS
from bridgebids.auction import DOUBLE
from bridgebids.auction import FIRST_BID
from bridgebids.auction import PASS
from bridgebids.auction import REDOUBLE
from bridgebids.auction import is_bid
from bridgebids.auction import partner

NOTHING = 0
TOO_LOW = 1
OUT_OF_TURN = 2


class Waiting:
    """A call that waits to be decided, and why: TOO_LOW or OUT_OF_TURN."""

    def __init__(self, seat, call, why):
        self.seat = seat
        self.call = call
        self.why = why


class Position:
    """What a table is at one moment."""

    def __init__(self, dealer, vulnerability):
        self.auction = Auction(dealer)
        self.vulnerability = vulnerability
        self.barred = [False, False, False, False]
        self.once = [False, False, False, False]
        self.waiting = None
        # Only the bid is kept: nothing has stood since, so its seat is still the one on turn.
        self.mending = None

    def copied(self):
        """The same position, to go on by itself."""
        other = Position(self.auction.dealer, self.vulnerability)
        other.auction = self.auction.copied()
        other.barred = list(self.barred)
        other.once = list(self.once)
        other.waiting = self.waiting
        other.mending = self.mending
        return other

    def must_pass(self, seat):
        """Whether this seat may make no other call than a pass."""
        return self.barred[seat] or self.once[seat]

    def may_mend(self, seat, call):
        """Whether the seat on turn may make this call where a bid is to be mended."""
        return call == PASS or (is_bid(call) and self.auction.legal(seat, call))

    def why_no_call(self, seat, call):
        """The number that refuses this call; 0 if none does."""
        if self.auction.over():
            return -4
        if self.waiting is not None:
            return -5
        if call != PASS and self.must_pass(seat):
            return -6
        if self.mending is not None and seat == self.auction.on_turn() and not self.may_mend(seat, call):
            return -8
        return 0

    def take_call(self, seat, call):
        """Take a call that isn't refused; answer what happened, 0 to 3."""
        if call in (DOUBLE, REDOUBLE) and not self.auction.may_stand(seat, call):
            self.bar(partner(seat))
            return 3
        if seat != self.auction.on_turn():
            self.waiting = Waiting(seat, call, OUT_OF_TURN)
            return 2
        if not self.auction.legal(seat, call):
            self.waiting = Waiting(seat, call, TOO_LOW)
            return 1
        if self.mending is not None and call - FIRST_BID != self.mending_bid():
            self.bar(partner(seat))
        self.let_stand(seat, call)
        return 0

    def mending_bid(self):
        """The lowest bid above the last one in the strain of the bid to be mended."""
        above = self.auction.last_bid() + 1
        return above + (self.mending - above) % 5

    def bar(self, seat):
        """Hold this seat to pass to the end."""
        self.barred[seat] = True

    def let_stand(self, seat, call):
        """Add this call to the calls made, and clear what ends with it."""
        self.auction.make(seat, call)
        self.once[seat] = False
        self.waiting = None
        self.mending = None

    def accept(self):
        """Let the call that waits stand; answer what happened."""
        self.let_stand(self.waiting.seat, self.waiting.call)
        return 0

    def withdraw(self):
        """Take back the call that waits; answer what happened, 4 to 6."""
        taken = self.waiting
        self.waiting = None
        if taken.why == TOO_LOW:
            self.mending = taken.call - FIRST_BID
            return 4
        if taken.call == PASS:
            self.once[taken.seat] = True
            return 5
        self.bar(partner(taken.seat))
        return 6

    def held(self, seat):
        """2 if this seat is barred, else 1 if it must pass once, else 0."""
        if self.barred[seat]:
            return 2
        return 1 if self.once[seat] else 0

    def told(self):
        """The eleven numbers that tell how the table stands."""
        auction = self.auction
        numbers = [auction.on_turn(), auction.last_bid() + 1, auction.doubled(), auction.passes()]
        numbers.append(1 if auction.over() else 0)
        numbers.append(NOTHING if self.waiting is None else self.waiting.why)
        numbers.append(0 if self.mending is None else 1)
        return numbers + [self.held(seat) for seat in range(4)]

    def legals(self):
        """The calls that the seat on turn may make, going up."""
        seat = self.auction.on_turn()
        found = [call for call in range(CALLS) if self.auction.legal(seat, call)]
        if self.must_pass(seat):
            return [call for call in found if call == PASS]
        if self.mending is not None:
            return [call for call in found if call == PASS or is_bid(call)]
        return found
