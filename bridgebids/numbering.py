"""The order of the finished auctions from a dealer: the number of one, and the one with a number."""

from bridgebids.auction import Auction
from bridgebids.auction import CALLS
from bridgebids.auction import DOUBLE
from bridgebids.auction import FIRST_BID
from bridgebids.auction import PASS
from bridgebids.auction import REDOUBLE
from bridgebids.auction import is_bid
from bridgebids.counting import ways_above
from bridgebids.counting import ways_on


def ways_with(auction, call, above):
    """The ways that begin with this call of the seat on turn."""
    behind = auction.copied()
    behind.make(auction.on_turn(), call)
    return ways_on(behind, above)


def ways_before(auction, call, above):
    """The ways that begin with a smaller call than this legal one of the seat on turn."""
    seat = auction.on_turn()
    ways = 0
    for smaller in (PASS, DOUBLE, REDOUBLE):
        if smaller < call and auction.legal(seat, smaller):
            ways += ways_with(auction, smaller, above)
    if is_bid(call):
        # What begins with a higher bid than the last one, but for this bid and those above it.
        ways += above[auction.last_bid() + 1] - above[call - FIRST_BID]
    return ways


def number_of(auction):
    """The number of this finished auction; None if it wasn't made turn by turn."""
    above = ways_above()
    before = Auction(auction.dealer)
    number = 0
    for seat, call in auction.made:
        if seat != before.on_turn() or not before.legal(seat, call):
            return None
        number += ways_before(before, call, above)
        before.make(seat, call)
    return number


def call_at(auction, left, above):
    """The next call of that way of this auction which has so many of its ways before it."""
    seat = auction.on_turn()
    lowest_bid = FIRST_BID + auction.last_bid() + 1
    found = PASS
    for call in [DOUBLE, REDOUBLE] + list(range(lowest_bid, CALLS)):
        if auction.legal(seat, call):
            if ways_before(auction, call, above) > left:
                break
            found = call
    return found


def auction_with(dealer, number):
    """The finished auction from this dealer that has this number; None if there are no more than that."""
    above = ways_above()
    auction = Auction(dealer)
    if number >= ways_on(auction, above):
        return None
    left = number
    while not auction.over():
        call = call_at(auction, left, above)
        left -= ways_before(auction, call, above)
        auction.make(auction.on_turn(), call)
    return auction
