"""Calls, auctions and numerals as texts: lists of bytes."""

from bridgebids.auction import CALLS
from bridgebids.auction import FIRST_BID
from bridgebids.auction import is_bid

BLANK = 32
ZERO = 48
NINE = 57
STRAINS = "CDHSN"
NO_BIDS = ("P", "X", "XX")

RIGHT = 0
NO_CALL = 1
NOT_LEGAL = 2
OVER_BEFORE = 3


def call_text(call):
    """The text of a call."""
    if not is_bid(call):
        return [ord(letter) for letter in NO_BIDS[call]]
    bid = call - FIRST_BID
    return [ZERO + 1 + bid // 5, ord(STRAINS[bid % 5])]


def call_of(word):
    """The call that has this text; None if none has."""
    for call in range(CALLS):
        if call_text(call) == word:
            return call
    return None


def auction_text(auction):
    """The text of the calls made."""
    text = []
    for seat, call in auction.made:
        if len(text) > 0:
            text.append(BLANK)
        text.extend(call_text(call))
    return text


def words_of(text):
    """The words between the blanks, each behind its place: how many bytes lie before it."""
    if len(text) == 0:
        return []
    words = []
    begin = 0
    for place, byte in enumerate(text + [BLANK]):
        if byte == BLANK:
            words.append((begin, text[begin:place]))
            begin = place + 1
    return words


def what_is_wrong(auction, word):
    """The kind of what is wrong with this word as the auction's next call; RIGHT if nothing is."""
    call = call_of(word)
    if call is None:
        return NO_CALL
    if auction.over():
        return OVER_BEFORE
    return RIGHT if auction.legal(auction.on_turn(), call) else NOT_LEGAL


def make_words(auction, text):
    """Make the calls that this text tells, turn by turn, until a word is wrong.

    Answers the kind of what is wrong and that word's place; or RIGHT and how many calls were made.
    """
    words = words_of(text)
    for place, word in words:
        wrong = what_is_wrong(auction, word)
        if wrong != RIGHT:
            return [wrong, place]
        auction.make(auction.on_turn(), call_of(word))
    return [RIGHT, len(words)]


def numeral(number):
    """The numeral of a number."""
    return [ord(digit) for digit in str(number)]


def number_told(text):
    """The number that this text is the numeral of; None if it's no numeral."""
    if len(text) == 0 or (text[0] == ZERO and len(text) > 1):
        return None
    number = 0
    for byte in text:
        if byte < ZERO or byte > NINE:
            return None
        number = number * 10 + byte - ZERO
    return number
