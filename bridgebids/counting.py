"""In how many ways an auction may go on, and how long the longest of them is."""

HIGHEST_BID = 34


def ways_behind_bid(higher, doubled, passes, facing):
    """The ways behind a bid that stands so, with so many passes at the end.

    higher: the ways that begin with a higher bid, the same wherever that bid is made.
    facing: whether the seat on turn is of the other side than the last word.
    """
    ways = higher
    if passes == 2:
        ways += 1
    else:
        ways += ways_behind_bid(higher, doubled, passes + 1, not facing)
    if facing and doubled < 2:
        ways += ways_behind_bid(higher, doubled + 1, 0, True)
    return ways


def ways_above():
    """By the last bid plus 1 (0 for none): the ways that begin with a higher bid."""
    counted = [0]
    # From the highest bid down: what is counted so far is what may come above each one.
    while len(counted) <= HIGHEST_BID + 1:
        counted.append(counted[-1] + ways_behind_bid(counted[-1], 0, 0, True))
    return list(reversed(counted))


def ways_on(auction, above):
    """The ways of this auction from here; above: what ways_above tells."""
    if auction.over():
        return 1
    last_bid = auction.last_bid()
    higher = above[last_bid + 1]
    passes = auction.passes()
    if last_bid < 0:
        # The first bid may come in the place of each pass that's left, or never.
        return (4 - passes) * higher + 1
    return ways_behind_bid(higher, auction.doubled(), passes, auction.faces_last_word(auction.on_turn()))


def longest_behind_bid(higher, doubled, passes, facing):
    """How many calls the longest way has behind a bid that stands so, with so many passes at the end.

    higher: how many the longest has that begins with a higher bid; 0 if there's no higher bid.
    facing: whether the seat on turn is of the other side than the last word.
    """
    behind_pass = 0 if passes == 2 else longest_behind_bid(higher, doubled, passes + 1, not facing)
    longest = max(higher, 1 + behind_pass)
    if facing and doubled < 2:
        longest = max(longest, 1 + longest_behind_bid(higher, doubled + 1, 0, True))
    return longest


def longest_above(bid):
    """How many calls the longest way has that begins with a higher bid; 0 if there's no higher bid."""
    longest = 0
    # One bid more never makes the longest way shorter, so it begins with the lowest of them.
    for lowest in range(HIGHEST_BID, bid, -1):
        longest = 1 + longest_behind_bid(longest, 0, 0, True)
    return longest


def longest_on(auction):
    """How many calls the longest way of this auction has from here."""
    if auction.over():
        return 0
    higher = longest_above(auction.last_bid())
    passes = auction.passes()
    if auction.last_bid_made() is None:
        # The first bid comes latest in the place of the fourth pass.
        return 3 - passes + higher
    return longest_behind_bid(higher, auction.doubled(), passes, auction.faces_last_word(auction.on_turn()))
