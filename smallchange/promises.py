"""Promises: how much of a kind is kept."""

from smallchange.bounds import MAX_KINDS, MAX_PURSE
from smallchange.checks import is_within
from smallchange.errors import BadAmount, NoKind, TooLittle

MAX_SPARE = 10 ** 30


class Reserve:
    """The promise to have at least so much of a kind; it never changes."""

    def __init__(self, kind, least):
        if not is_within(kind, 0, MAX_KINDS - 1):
            raise NoKind(kind)
        if not is_within(least, 0, MAX_PURSE):
            raise BadAmount(least)
        self.kind = kind
        self.least = least

    def spare(self, amount):
        """By how much the amount is greater than least."""
        if not is_within(amount, 0, MAX_SPARE):
            raise BadAmount(amount)
        if amount < self.least:
            raise TooLittle(amount)
        return amount - self.least
