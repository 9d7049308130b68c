"""Rules: a number for each amount, by a table that repeats."""

from math import lcm

from smallchange.bounds import MAX_TOLD
from smallchange.checks import is_amount, is_whole
from smallchange.errors import BadRule, TooLong


def rule_error(value):
    """None for a rule, otherwise the first word that applies."""
    if not isinstance(value, tuple) or len(value) != 3 or not isinstance(value[0], tuple):
        return "form"
    table, period, rise = value
    wrong = told_error(table, period, rise)
    if wrong is not None:
        return wrong
    if len(shortest(table, period, rise)[0]) < len(table):
        return "long"
    return None


def told_error(table, period, rise):
    """The word "form" or "falls" for what tells no values of a rule, or None."""
    if not is_whole(period) or not 1 <= period <= len(table) or not is_amount(rise):
        return "form"
    if not all([is_amount(worth) for worth in table]):
        return "form"
    if any([table[at] > table[at + 1] for at in range(len(table) - 1)]):
        return "falls"
    # behind the table each step is one of the table, but for the first one
    if table[-1] > table[len(table) - period] + rise:
        return "falls"
    return None


def canonical(table, period, rise):
    """The rule with the values that table, period and rise tell."""
    wrong = told_error(table, period, rise)
    if wrong is not None:
        raise BadRule(wrong)
    return shortest(table, period, rise)


def shortest(table, period, rise):
    """The tuple with the shortest table that tells the same values."""
    tail = table[len(table) - period:]
    steps = [tail[at + 1] - tail[at] for at in range(period - 1)]
    turn = cycle_of(steps + [tail[0] + rise - tail[-1]])
    gain = rise * turn // period
    count = len(table)
    while count > turn and table[count - 1] == table[count - 1 - turn] + gain:
        count -= 1
    return tuple(table[:count]), turn, gain


def cycle_of(items):
    """The least number of items that the list repeats throughout."""
    for turn in range(1, len(items)):
        if len(items) % turn == 0 and items == items[turn:] + items[:turn]:
            return turn
    return len(items)


def told(table, period, rise):
    """As shortest, for results: TooLong if the rule has too long a table."""
    rule = shortest(table, period, rise)
    check_told(len(rule[0]))
    return rule


def check_told(number):
    """Raises TooLong if number members are too many for a result."""
    if number > MAX_TOLD:
        raise TooLong(number)


def value_of(rule, x):
    """The value of the rule at x."""
    table, period, rise = rule
    if x < len(table):
        return table[x]
    turns = (x - len(table)) // period + 1
    return table[x - turns * period] + turns * rise


def values_to(rule, count):
    """The list of the values at all x less than count."""
    table, period, rise = rule
    values = list(table[:count])
    for x in range(len(table), count):
        values.append(values[x - period] + rise)
    return values


def least_for(rule, y):
    """The least x with a value of at least y, or None."""
    table, period, rise = rule
    if table[-1] >= y:
        return first_place(table, 0, y)
    if rise == 0:
        return None
    # so many turns lift the last value of the table to y, and no fewer
    turns = (y - table[-1] + rise - 1) // rise
    return first_place(table, len(table) - period, y - turns * rise) + turns * period


def first_place(table, low, y):
    """The first place from low on with at least y; the last one has it."""
    high = len(table) - 1
    while low < high:
        middle = (low + high) // 2
        if table[middle] >= y:
            high = middle
        else:
            low = middle + 1
    return low


def sum_of(rule, low, high):
    """The sum of the values at all x with low <= x < high."""
    if low >= high:
        return 0
    return sum_below(rule, high) - sum_below(rule, low)


def sum_below(rule, x):
    """The sum of the values at all amounts less than x."""
    table, period, rise = rule
    if x <= len(table):
        return sum(table[:x])
    turns, rest = divmod(x - len(table), period)
    tail = table[len(table) - period:]
    whole = turns * sum(tail) + rise * period * (turns * (turns + 1) // 2)
    return sum(table) + whole + sum(tail[:rest]) + rest * (turns + 1) * rise


def first_above(one, other):
    """The least x at which one is greater than other, or None."""
    begin, turn = common_turn(one, other)
    left = values_to(one, begin + turn)
    right = values_to(other, begin + turn)
    for x in range(begin + turn):
        if left[x] > right[x]:
            return x
    gain = rise_in(one, turn) - rise_in(other, turn)
    if gain <= 0:
        return None
    return min([x + turn * ((right[x] - left[x]) // gain + 1) for x in range(begin, begin + turn)])


def begin_of(rule):
    """The first amount from which on the rule repeats."""
    return len(rule[0]) - rule[1]


def rise_in(rule, turn):
    """By how much the rule rises in turn, a multiple of its period."""
    return rule[2] * (turn // rule[1])


def common_turn(one, other):
    """From where on both rules repeat, and a period of both."""
    return max(begin_of(one), begin_of(other)), lcm(one[1], other[1])
