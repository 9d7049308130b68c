"""Checks of any value that several modules share."""


def is_whole(value):
    """Whether value is an integer; a bool is none."""
    return isinstance(value, int) and not isinstance(value, bool)


def is_within(value, low, high):
    """Whether value is an integer from low to high."""
    return is_whole(value) and low <= value <= high


def is_amount(value):
    """Whether value is an integer from 0 on."""
    return is_whole(value) and value >= 0
