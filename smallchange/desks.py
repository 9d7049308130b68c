"""Desks: what they take and give, and the offers that stand for them."""

from math import lcm

from smallchange.bounds import MAX_AMOUNT, MAX_KINDS, MAX_MOST, MAX_OFFERS, MAX_RATE
from smallchange.checks import is_within
from smallchange.errors import TooGreat, TooMany
from smallchange.rules import check_told, shortest, told
from smallchange.stars import BestPart, stack


def desk_error(value):
    """None for a desk, otherwise the word for the first item that is wrong."""
    if not isinstance(value, tuple) or len(value) != 8:
        return "desk"
    a, b, num, den, how, least, step, most = value
    if not is_within(a, 0, MAX_KINDS - 1):
        return "from"
    if not is_within(b, 0, MAX_KINDS - 1) or a == b:
        return "to"
    if not is_within(num, 0, MAX_RATE):
        return "num"
    if not is_within(den, 1, MAX_RATE):
        return "den"
    if not isinstance(how, str) or how not in ("down", "up", "near"):
        return "how"
    if not is_within(least, 1, MAX_AMOUNT):
        return "least"
    if not is_within(step, 1, MAX_AMOUNT):
        return "step"
    if most is not None and not is_within(most, least, MAX_MOST):
        return "most"
    return None


def takes(desk, x):
    """Whether the desk takes x."""
    least, step, most = desk[5:]
    return x >= least and x % step == 0 and (most is None or x <= most)


def gives(desk, x):
    """What the desk gives for x, or None if it does not take x."""
    if not takes(desk, x):
        return None
    num, den, how = desk[2:5]
    if how == "down":
        return num * x // den
    if how == "up":
        return (num * x + den - 1) // den
    return (2 * num * x + den) // (2 * den)


def needed_uses(desk):
    """The ascending tuple of the needed uses."""
    least, step, most = desk[5:]
    if most is None:
        # of a greater amount, a multiple of step and den is parted off for all that it gives
        count = first_taken(desk) + up_to_multiple(least, lcm(step, desk[3]))
    else:
        count = most + 1
    return tuple(stack(use_values(desk, count), count)[1])


def first_taken(desk):
    """The least amount that the desk takes, if it takes any."""
    return up_to_multiple(desk[5], desk[6])


def up_to_multiple(least, step):
    """The least multiple of step that is at least least."""
    return (least + step - 1) // step * step


def use_values(desk, count):
    """The most that one use gives for at most x, for all x less than count."""
    values = []
    best = 0
    for x in range(count):
        if takes(desk, x):
            best = gives(desk, x)
        values.append(best)
    return values


def use_rule(desk):
    """The rule of the most that one use gives."""
    num, den = desk[2:4]
    step, most = desk[6:]
    if most is not None:
        return told(use_values(desk, most + 1), 1, 0)
    turn = lcm(step, den)
    return told(use_values(desk, first_taken(desk) + turn), turn, num * turn // den)


def all_rule(desk):
    """The rule of the most that any number of uses give."""
    plan = BestPart([(1, 0)] + list(needed_uses(desk)))
    count = plan.late + plan.turn
    check_told(count)
    return shortest(stack(use_values(desk, count), count)[0], plan.turn, plan.gain)


def board_of(k, desks):
    """The board with an offer for each needed use of each desk."""
    offers = {}
    for index, desk in enumerate(desks):
        for x, y in needed_uses(desk):
            if x > MAX_AMOUNT or y > MAX_AMOUNT:
                raise TooGreat(index)
            offers[desk[0], x, desk[1], y] = True
    if len(offers) > MAX_OFFERS:
        raise TooMany()
    return k, tuple(sorted(offers))
