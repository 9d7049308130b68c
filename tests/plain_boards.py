"""Plain searches over boards, use by use, and boards, purses and ways to try."""

from fractions import Fraction

from plain import is_integer, seeded

B = (3, ((0, 3, 1, 2), (0, 4, 2, 1), (1, 1, 0, 1), (1, 3, 2, 2)))
D = (2, ((0, 2, 1, 4), (1, 3, 0, 2)))
E = (2, ((0, 3, 1, 1), (1, 1, 0, 2)))
G = (2, ((0, 5, 1, 3), (1, 2, 0, 4)))
CHAIN = (3, ((0, 1, 1, 8), (1, 1, 2, 8)))
ROUND = (3, ((0, 1, 1, 1), (1, 1, 0, 1), (1, 1, 2, 1), (2, 1, 1, 1)))
# a loop of the kinds 0 and 1 gains; what comes of it leads to 2, from where nothing comes back
LEAK = (3, ((0, 2, 1, 3), (1, 2, 0, 2), (1, 5, 2, 1)))
# here something comes back from 2, though less than went there
TWICE = (3, ((0, 2, 1, 3), (1, 2, 0, 2), (1, 5, 2, 1), (2, 2, 1, 8)))
FULL = (3, ((0, 1, 1, 2), (0, 2, 1, 5), (0, 3, 2, 1), (0, 8, 2, 3), (1, 2, 0, 0), (1, 3, 2, 1), (1, 5, 0, 2),
            (1, 8, 2, 3), (2, 1, 0, 0), (2, 2, 0, 4), (2, 5, 1, 8), (2, 8, 1, 8)))
BOARDS = [(1, ()), (2, ()), (3, ()), B, D, E, G, CHAIN, ROUND, LEAK, TWICE, FULL, (2, ((0, 1, 1, 0),)),
          (2, ((0, 1, 1, 1),)), (2, ((0, 8, 1, 8), (1, 8, 0, 8))), (2, ((0, 1, 1, 8), (1, 8, 0, 1)))]


def some_board(rng, kinds=3, most_offers=12, most_amount=8):
    """A board with up to so many offers; many of them change little."""
    offers = {}
    for _ in range(rng.randint(0, most_offers) if kinds > 1 else 0):
        a, b = rng.sample(range(kinds), 2)
        x = rng.randint(1, most_amount)
        near = min(most_amount, max(1, x + rng.randint(-2, 1)))
        offers[a, x, b, rng.choice([rng.randint(0, most_amount), near])] = True
    return kinds, tuple(sorted(offers))


def some_purse(rng, kinds, together=12):
    amounts = [0] * kinds
    for _ in range(rng.choice([together, rng.randint(0, together)])):
        amounts[rng.randrange(kinds)] += 1
    return tuple(amounts)


def some_goal(rng, kinds, most=20):
    return tuple(rng.randint(0, rng.choice([2, 5, most])) for _ in range(kinds))


def pairs(seed, count):
    """Boards with purses of them."""
    rng = seeded(seed)
    for board in BOARDS:
        yield board, (0,) * board[0]
        yield board, (12,) + (0,) * (board[0] - 1)
        for _ in range(4):
            yield board, some_purse(rng, board[0])
    for _ in range(count):
        board = some_board(rng, rng.choice([1, 2, 3, 3, 3]))
        yield board, some_purse(rng, board[0])


def some_way(rng, board, most_steps=5, most_times=4):
    """A way of runs and rounds, if the board has an offer."""
    count = len(board[1])

    def run():
        return (rng.randrange(count), rng.randint(1, most_times))

    steps = []
    for _ in range(rng.randint(0, most_steps) if count else 0):
        if rng.random() < 0.5:
            steps.append(run())
        else:
            steps.append((tuple(run() for _ in range(rng.randint(1, 3))), rng.randint(1, most_times)))
    return tuple(steps)


def under(one, other):
    """Whether a purse or general purse lies under another one, by the words of point 11."""
    return all(most is None or (amount is not None and amount <= most) for amount, most in zip(one, other))


def uses_of(way):
    """The pairs (place of the step, index of the offer) of all uses, one after another."""
    uses = []
    for place, (first, times) in enumerate(way):
        runs = first if isinstance(first, tuple) else ((first, 1),)
        uses.extend([(place, index) for _ in range(times) for index, often in runs for _ in range(often)])
    return uses


def plain_use(board, purse, index):
    """The purse behind one use, None if the offer does not run."""
    a, x, b, y = board[1][index]
    if purse[a] < x:
        return None
    amounts = list(purse)
    amounts[a] -= x
    amounts[b] += y
    return tuple(amounts)


def plain_walk(board, purse, way):
    """The place of the step in which the way is stuck, or None, and the last purse."""
    for place, index in uses_of(way):
        after = plain_use(board, purse, index)
        if after is None:
            return place, purse
        purse = after
    return None, purse


def plain_levels(board, purse, count, limit=10 ** 9):
    """The purses come to by no fewer than 0, 1, .. uses: up to count of them, less if limit are too many."""
    seen = {purse: True}
    levels = [[purse]]
    while levels[-1] and len(levels) <= count and len(seen) <= limit:
        found = []
        for before in levels[-1]:
            for index in range(len(board[1])):
                after = plain_use(board, before, index)
                if after is not None and after not in seen:
                    seen[after] = True
                    found.append(after)
        levels.append(found)
    return levels


def plain_purses(board, purse, limit):
    """All purses to which ways lead, or None if there are more than limit."""
    levels = plain_levels(board, purse, limit + 1, limit)
    purses = [item for level in levels for item in level]
    return None if len(purses) > limit else purses


def highest(purses):
    """Those that lie under no other one."""
    kept = []
    for purse in sorted(purses, key=sum, reverse=True):
        if not any(under(purse, other) for other in kept):
            kept.append(purse)
    return tuple(sorted(kept))


def plain_is_way(board, value):
    def is_run(item):
        return (type(item) is tuple and len(item) == 2 and is_integer(item[0]) and is_integer(item[1])
                and 0 <= item[0] < len(board[1]) and 1 <= item[1] <= 10 ** 30)

    def is_round(item):
        return (type(item) is tuple and len(item) == 2 and type(item[0]) is tuple and item[0] != ()
                and all(is_run(run) for run in item[0]) and is_integer(item[1]) and 1 <= item[1] <= 10 ** 30)

    return type(value) is tuple and all(is_run(item) or is_round(item) for item in value)


def plain_leads_to(board, purse, value):
    """The purse to which any value leads, None if it is no way that can be walked; for ways of few uses."""
    if not plain_is_way(board, value):
        return None
    stuck, end = plain_walk(board, purse, value)
    return end if stuck is None else None


def plain_is_cover(board, purse, value):
    """Whether any value is a cover, by the words of point 11."""
    kinds, offers = board
    if type(value) is not tuple:
        return False
    for item in value:
        if type(item) is not tuple or len(item) != kinds:
            return False
        if not all(amount is None or (is_integer(amount) and amount >= 0) for amount in item):
            return False
    if not any(under(purse, item) for item in value):
        return False
    for item in value:
        for a, x, b, y in offers:
            if item[a] is None or item[a] >= x:
                after = list(item)
                after[a] = None if item[a] is None else item[a] - x
                after[b] = None if item[b] is None else item[b] + y
                if not any(under(after, other) for other in value):
                    return False
    return True


def plain_reach_holds(board, purse, goal, value):
    if type(value) is not tuple or len(value) != 2:
        return False
    if value[0] == "way":
        end = plain_leads_to(board, purse, value[1])
        return end is not None and under(goal, end)
    if value[0] == "cover":
        return plain_is_cover(board, purse, value[1]) and not any(under(goal, item) for item in value[1])
    return False


def plain_most_holds(board, purse, kind, value):
    if type(value) is not tuple or len(value) not in (3, 4):
        return False
    if value[0] == "most" and len(value) == 4:
        end = plain_leads_to(board, purse, value[2])
        if end is None or not is_integer(value[1]) or end[kind] != value[1]:
            return False
        return plain_is_cover(board, purse, value[3]) and all(
            item[kind] is not None and item[kind] <= value[1] for item in value[3])
    if value[0] == "endless" and len(value) == 3:
        middle = plain_leads_to(board, purse, value[1])
        end = None if middle is None else plain_leads_to(board, middle, value[2])
        return end is not None and under(middle, end) and end[kind] > middle[kind]
    return False


def plain_trails(board, start):
    """All trails from the kind start that take no kind twice, as (kind, ratio, indexes)."""
    trails = [(start, Fraction(1), ())]
    for kind, worth, indexes in trails:
        taken = [board[1][index][0] for index in indexes]
        if kind not in taken:
            for index, (a, x, b, y) in enumerate(board[1]):
                if a == kind and y > 0:
                    trails.append((b, worth * Fraction(y, x), indexes + (index,)))
    return trails


def plain_loops(board):
    """All loops that take no kind twice, as (ratio, indexes), beginning with any of their offers."""
    return [(worth, indexes) for start in range(board[0]) for kind, worth, indexes in plain_trails(board, start)
            if kind == start and indexes]


def plain_is_loop(board, value):
    """Whether any value is a loop that gains."""
    offers = board[1]
    if type(value) is not tuple or not value:
        return False
    if not all(is_integer(index) and 0 <= index < len(offers) for index in value):
        return False
    worth = Fraction(1)
    for at, index in enumerate(value):
        a, x, b, y = offers[index]
        if y == 0 or offers[value[(at + 1) % len(value)]][0] != b:
            return False
        worth *= Fraction(y, x)
    return worth > 1
