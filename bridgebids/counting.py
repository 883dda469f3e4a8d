"""In how many ways an auction may go on."""

HIGHEST_BID = 34


def ways_behind_bid(higher, doubled, passes, facing):
    """The ways behind a bid that stands so, with so many passes at the end.

    higher: the ways that begin with a higher bid, the same wherever that bid is made.
    facing: whether the seat on turn is of the other side than the last word.
    """
    ways = higher
    if passes == 2:
        ways += 1
    else:
        ways += ways_behind_bid(higher, doubled, passes + 1, not facing)
    if facing and doubled < 2:
        ways += ways_behind_bid(higher, doubled + 1, 0, True)
    return ways


def ways_of_higher_bids(bid):
    """The ways that begin with a bid higher than this one."""
    ways = 0
    # From the highest bid down: what is counted so far is what may come above each one.
    for above in range(HIGHEST_BID, bid, -1):
        ways += ways_behind_bid(ways, 0, 0, True)
    return ways


def ways_on(auction):
    """The ways of this auction from here."""
    if auction.over():
        return 1
    higher = ways_of_higher_bids(auction.last_bid())
    passes = auction.passes()
    if auction.last_bid_made() is None:
        # The first bid may come in the place of each pass that's left, or never.
        return (4 - passes) * higher + 1
    return ways_behind_bid(higher, auction.doubled(), passes, auction.faces_last_word(auction.on_turn()))
