"""Rules of amounts that are parted."""

from math import lcm

from smallchange.errors import NoStart
from smallchange.folds import best_rule
from smallchange.rules import begin_of, check_told, common_turn, shortest, told, values_to
from smallchange.stars import BestPart, LongPart, best_part, stack, stacked_parts


def split_rule(one, other):
    """The rule of the most that two parts come to, one for each rule."""
    steep, flat = one, other
    if one[2] * other[1] < other[2] * one[1]:
        steep, flat = other, one
    # a turn of both, moved to the steep rule, loses nothing: so either the
    # part of the flat rule is bounded, or the steep rule does not repeat yet
    bound = begin_of(flat) + common_turn(one, other)[1]
    most = split_with(flat, bound, steep)
    if begin_of(steep) == 0:
        return told(most[0], most[1], most[2])
    return best_rule(split_with(steep, begin_of(steep), flat), most)


def split_with(near, bound, far):
    """The rule of the best split with less than bound in the rule near."""
    count = bound - 1 + len(far[0])
    short = values_to(near, bound)
    # a part that could be less for the same value is never needed
    jumps = [(x, short[x]) for x in range(bound) if x == 0 or short[x] > short[x - 1]]
    values = values_to(far, count)
    sums = [max([values[x - size] + worth for size, worth in jumps if size <= x]) for x in range(count)]
    return shortest(sums, far[1], far[2])


def star_rule(rule):
    """The rule of the most that any number of parts come to."""
    plan = star_plan(rule)
    sums = stack(values_to(rule, plan.late + plan.turn), len(rule[0]))[0]
    return shortest(sums, plan.turn, plan.gain)


def star_plan(rule):
    """The plan of what the star comes to far out; NoStart, TooLong."""
    table, period, rise = rule
    if table[0] != 0:
        raise NoStart(table[0])
    size, worth = best_part(parts_to(rule, len(table)))
    if worth * period < rise * size:
        plan = LongPart(rule)
    else:
        # longer parts leave no rest that these do not leave, too
        plan = BestPart(parts_to(rule, len(table) + lcm(period, size)))
    check_told(plan.late + plan.turn)
    return plan


def parts_to(rule, count):
    """The list of (part, value) for the parts from 1 to count."""
    values = values_to(rule, count + 1)
    return [(size, values[size]) for size in range(1, count + 1)]


def star_parts(rule, x):
    """Parts for the value of star_rule at x, as pairs (part, times)."""
    times = star_plan(rule).parts_for(x)
    if times is None:
        times = stacked_parts(values_to(rule, x + 1), len(rule[0]), x)
    return tuple([(part, times[part]) for part in sorted(times) if times[part] > 0])
