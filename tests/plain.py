"""Plain counts of what the document describes, and values to try."""

import copy
import random
from fractions import Fraction

from smallchange.boards import board_error
from smallchange.errors import TooLong

BIG = 10 ** 60 - 1


def plain_value(rule, x):
    """The value at x, straight from the definition."""
    table, period, rise = rule
    if x < len(table):
        return table[x]
    return plain_value(rule, x - period) + rise


def plain_values(rule, count):
    """The values at all x less than count, straight from the definition."""
    table, period, rise = rule
    values = []
    for x in range(count):
        values.append(table[x] if x < len(table) else values[x - period] + rise)
    return values


def plain_split(left, right):
    """The greatest sums of two values, for amounts within both lists."""
    return [max([left[at] + right[x - at] for at in range(x + 1)]) for x in range(len(left))]


def plain_star(values):
    """The greatest sums of values at parts, for amounts within the list."""
    sums = [0]
    for x in range(1, len(values)):
        sums.append(max([values[part] + sums[x - part] for part in range(1, x + 1)]))
    return sums


def plain_takes(desk, x):
    a, b, num, den, how, least, step, most = desk
    return x % step == 0 and x >= least and (most is None or x <= most)


def plain_gives(desk, x):
    """What the desk gives, by searching for the whole amounts around."""
    a, b, num, den, how, least, step, most = desk
    exact = Fraction(num * x, den)
    below = exact.numerator // exact.denominator
    above = below if below == exact else below + 1
    if how == "down":
        return below
    if how == "up":
        return above
    return above if above - exact <= exact - below else below


def plain_uses(desk, count):
    """All uses of amounts less than count."""
    return [(x, plain_gives(desk, x)) for x in range(count) if plain_takes(desk, x)]


def plain_desk(desk, count):
    """The most by one use, the most by any uses, and the needed uses."""
    uses = plain_uses(desk, count)
    single = [max([y for size, y in uses if size <= x], default=0) for x in range(count)]
    many = []
    needed = []
    for x in range(count):
        lesser = max([y + many[x - size] for size, y in uses if size < x], default=0)
        here = max([y for size, y in uses if size == x], default=0)
        if here > lesser:
            needed.append((x, here))
        many.append(max(here, lesser, many[-1] if many else 0))
    return single, many, tuple(needed)


def is_shortest(rule):
    """Whether no shorter table tells the values, by trying all of them."""
    table, period, rise = rule
    values = plain_values(rule, 3 * len(table) + 2)
    for count in range(1, len(table)):
        for turn in range(1, count + 1):
            # of a whole number of turns both rises must be the same
            if rise * turn % period == 0:
                if plain_values((tuple(values[:count]), turn, rise * turn // period), len(values)) == values:
                    return False
    return True


def some_rule(rng, longest=9, steps=6, first=None):
    """A tuple that tells values which never fall; its table may be too long."""
    count = rng.randint(1, longest)
    period = rng.randint(1, count)
    table = [rng.choice([0, 0, rng.randint(0, steps)]) if first is None else first]
    while len(table) < count:
        table.append(table[-1] + rng.choice([0, 0, 1, rng.randint(0, steps)]))
    rise = table[-1] - table[count - period] + rng.choice([0, 0, 1, rng.randint(0, steps)])
    return tuple(table), period, rise


def some_desk(rng, most_rate=9, most_step=6):
    least = rng.randint(1, most_step)
    return (0, 1, rng.randint(0, most_rate), rng.randint(1, most_rate), rng.choice(["down", "up", "near"]),
            least, rng.randint(1, most_step), rng.choice([None, None, rng.randint(least, 40)]))


def seeded(number):
    return random.Random(number)


def odd_values():
    """Values of all kinds that the document lets somebody pass as any value."""
    nested = ()
    for _ in range(20):
        nested = (nested,)
    deep = []
    for _ in range(20):
        deep = [deep]
    return [
        None, True, False, -1, 10 ** 60 - 1, -(10 ** 60 - 1), "", "rule", "a" * 3000, "\n", (), (0,), (True,),
        [], [0], [[0], 1, 0], {}, {"a": 1}, {"table": (0,)}, nested, deep, ((),), (None, None), ((0,), 1, 0),
        ((0,), 1), ((0,), 1, 0, 0), (0, 1, 1, 1), (2, ()), [2, ()], (0,) * 4000, [0] * 4000, (("x",) * 3,) * 8,
        ((0,), True, 0), ((0,), 1, False), ((False,), 1, 0), ([0], 1, 0), TooLong(3), board_error,
    ]


def replaced(value):
    """All values that come of value by replacing one of its parts."""
    for odd in odd_values():
        yield odd
    if isinstance(value, tuple):
        yield list(value)
        yield value[:-1]
        yield value + (0,)
        for at, part in enumerate(value):
            for other in replaced(part):
                yield value[:at] + (other,) + value[at + 1:]


def is_integer(value):
    return type(value) is int


class Unchanged:
    """Checks that arguments are as they were: for use by `with`."""

    def __init__(self, case, *arguments):
        self.case = case
        self.arguments = arguments
        self.before = copy.deepcopy(arguments)

    def __enter__(self):
        return self.arguments

    def __exit__(self, kind, error, trace):
        if kind is None:
            self.case.assertEqual(self.arguments, self.before)
