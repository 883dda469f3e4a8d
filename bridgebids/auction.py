"""An auction: its dealer, the calls made, and what can be told from these alone."""

PASS = 0
DOUBLE = 1
REDOUBLE = 2
FIRST_BID = 3
CALLS = 38


def partner(seat):
    """The other seat of this seat's side."""
    return (seat + 2) % 4


def is_bid(call):
    """Whether this call is a bid, not a pass, double or redouble."""
    return call >= FIRST_BID


class Auction:
    """A dealer and the calls made, in order: pairs of a seat and its call."""

    def __init__(self, dealer):
        self.dealer = dealer
        self.made = []

    def copied(self):
        """The same auction, to go on by itself."""
        other = Auction(self.dealer)
        other.made = list(self.made)
        return other

    def make(self, seat, call):
        """Add a call that stands."""
        self.made.append((seat, call))

    def on_turn(self):
        """The seat that's to call."""
        if len(self.made) == 0:
            return self.dealer
        return (self.made[-1][0] + 1) % 4

    def last_bid_made(self):
        """The seat and the call of the last bid; None if there's none."""
        for seat, call in reversed(self.made):
            if is_bid(call):
                return (seat, call)
        return None

    def last_bid(self):
        """The last bid; if there's none, -1, so that any bid is higher."""
        found = self.last_bid_made()
        return -1 if found is None else found[1] - FIRST_BID

    def last_word(self):
        """The seat and the call of the last call that isn't a pass; None if there's none."""
        for seat, call in reversed(self.made):
            if call != PASS:
                return (seat, call)
        return None

    def doubled(self):
        """0, 1 or 2: whether the last bid stands undoubled, doubled or redoubled."""
        word = self.last_word()
        if word is None or is_bid(word[1]):
            return 0
        return 2 if word[1] == REDOUBLE else 1

    def passes(self):
        """How many passes stand at the end."""
        found = 0
        for seat, call in reversed(self.made):
            if call != PASS:
                break
            found += 1
        return found

    def over(self):
        """Whether the auction is over."""
        needed = 4 if self.last_bid_made() is None else 3
        return self.passes() >= needed

    def faces_last_word(self, seat):
        """Whether the last word is one of the other side than this seat's."""
        word = self.last_word()
        return word is not None and word[0] % 2 != seat % 2

    def may_stand(self, seat, call):
        """Whether this seat's call, a double or a redouble, may stand."""
        if not self.faces_last_word(seat):
            return False
        said = self.last_word()[1]
        return is_bid(said) if call == DOUBLE else said == DOUBLE

    def legal(self, seat, call):
        """Whether this call is legal for this seat."""
        if self.over():
            return False
        if call == PASS:
            return True
        if is_bid(call):
            return call - FIRST_BID > self.last_bid()
        return self.may_stand(seat, call)

    def first_to_bid(self, side, strain):
        """The seat that was the first of this side to bid this strain; None if none did."""
        for seat, call in self.made:
            if is_bid(call) and seat % 2 == side and (call - FIRST_BID) % 5 == strain:
                return seat
        return None

    def contract(self):
        """Of an auction that's over: the bid, how it's doubled, the declarer, who leads, the dummy.

        Nothing if it was passed out.
        """
        found = self.last_bid_made()
        if found is None:
            return []
        bid = found[1] - FIRST_BID
        declarer = self.first_to_bid(found[0] % 2, bid % 5)
        return [bid, self.doubled(), declarer, (declarer + 1) % 4, partner(declarer)]
