"""Boards: the offers by which kinds are changed into one another."""

from smallchange.bounds import MAX_AMOUNT, MAX_KINDS, MAX_OFFERS, MAX_PURSE, MAX_SMALL
from smallchange.checks import is_within

SMALL_KINDS = 3
SMALL_OFFERS = 12


def board_error(value):
    """None for a board, otherwise where it is wrong and the word for it."""
    if not isinstance(value, tuple) or len(value) != 2:
        return None, "board"
    kinds, offers = value
    if not is_within(kinds, 1, MAX_KINDS):
        return None, "kinds"
    if not isinstance(offers, tuple) or len(offers) > MAX_OFFERS:
        return None, "offers"
    for index, offer in enumerate(offers):
        if not is_offer(kinds, offer):
            return index, "offer"
        if index > 0 and offer <= offers[index - 1]:
            return index, "order"
    return None


def is_offer(kinds, value):
    """Whether value is an offer of so many kinds."""
    if not isinstance(value, tuple) or len(value) != 4:
        return False
    taken, least, given, worth = value
    if not is_within(taken, 0, kinds - 1) or not is_within(given, 0, kinds - 1):
        return False
    return taken != given and is_within(least, 1, MAX_AMOUNT) and is_within(worth, 0, MAX_AMOUNT)


def is_purse(kinds, value):
    """Whether value is a purse of a board of so many kinds."""
    if not isinstance(value, tuple) or len(value) != kinds:
        return False
    return all([is_within(amount, 0, MAX_PURSE) for amount in value])


def is_small(board):
    """Whether the board is small."""
    kinds, offers = board
    if kinds > SMALL_KINDS or len(offers) > SMALL_OFFERS:
        return False
    return all([x <= MAX_SMALL and y <= MAX_SMALL for _, x, _, y in offers])
