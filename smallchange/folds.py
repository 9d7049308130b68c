"""Rules that are made of one or two rules, value by value."""

from math import gcd

from smallchange.errors import NoRise
from smallchange.rules import begin_of, check_told, common_turn, least_for, rise_in, told, value_of, values_to


def sum_rule(one, other):
    """The rule of the sums of the values of both."""
    begin, turn = common_turn(one, other)
    left = values_to(one, begin + turn)
    right = values_to(other, begin + turn)
    sums = [left[x] + right[x] for x in range(begin + turn)]
    return told(sums, turn, rise_in(one, turn) + rise_in(other, turn))


def best_rule(one, other):
    """The rule of the greater value of both."""
    ahead = one[2] * other[1] - other[2] * one[1]
    if ahead == 0:
        begin, turn = common_turn(one, other)
        return greater_values(one, other, begin + turn, turn)
    if ahead > 0:
        return overtaking_rule(one, other)
    return overtaking_rule(other, one)


def overtaking_rule(steep, flat):
    """The best rule of two of which the first one rises more by amount."""
    count = max(begin_of(steep), last_above(flat, steep) + 1) + steep[1]
    # a table that ends with steep right behind flat cannot be shortened
    if count > len(steep[0]):
        check_told(count)
    return greater_values(steep, flat, count, steep[1])


def greater_values(one, other, count, turn):
    """The rule of the greater values, with turn for a period behind count."""
    left = values_to(one, count)
    right = values_to(other, count)
    return told([max(left[x], right[x]) for x in range(count)], turn, rise_in(one, turn))


def last_above(flat, steep):
    """The last x at which flat is greater than steep, -1 if there is none."""
    begin, turn = common_turn(flat, steep)
    left = values_to(flat, begin + turn)
    right = values_to(steep, begin + turn)
    loss = rise_in(steep, turn) - rise_in(flat, turn)
    late = [x + turn * ((left[x] - right[x] - 1) // loss)
            for x in range(begin, begin + turn) if left[x] > right[x]]
    early = [x for x in range(begin) if left[x] > right[x]]
    return max(early + late, default=-1)


def then_rule(first, second):
    """The rule of the values of second at the values of first."""
    begin = begin_of(first)
    times = second[1] // gcd(second[1], first[2])
    if first[2] > 0:
        begin = max(begin, least_for(first, begin_of(second)))
    turn = first[1] * times
    values = [value_of(second, worth) for worth in values_to(first, begin + turn)]
    return told(values, turn, second[2] * (first[2] * times // second[1]))


def inverse_rule(rule):
    """The rule of the least amounts for each value."""
    table, period, rise = rule
    if rise == 0:
        raise NoRise()
    begin = begin_of(rule)
    # the last value before the rule repeats, and the one a turn later
    before = table[begin - 1] if begin > 0 else -1
    behind = table[-1] - rise
    number = max(before, behind) + 1 + rise
    check_told(number)
    return tuple([least_for(rule, y) for y in range(number)]), rise, period
