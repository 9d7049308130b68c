"""Prices, loops that gain, and the trails with the best ratios."""

from math import gcd, lcm

from smallchange.checks import is_amount, is_within
from smallchange.errors import BadLoop, Endless, NoKind


def worths(board):
    """("loop", indexes) with a loop that gains, or else ("prices", prices)."""
    kinds = list(range(board[0]))
    loop = gaining_loop(board, kinds)
    if loop is not None:
        return "loop", loop
    common = 1
    tops = []
    for kind in kinds:
        trails = best_trails(board, kind, kinds)
        top = (1, 1)
        for num, den, _ in trails.values():
            if num * top[1] > top[0] * den:
                top = (num, den)
        tops.append(top)
        common = lcm(common, top[1])
    return "prices", tuple([num * (common // den) for num, den in tops])


def worths_hold(board, value):
    """Whether any value is a loop that gains or prices, as worths tells them."""
    if not isinstance(value, tuple) or len(value) != 2:
        return False
    if value[0] == "loop":
        return is_gaining_loop(board, value[1])
    return value[0] == "prices" and are_prices(board, value[1])


def are_prices(board, value):
    """Whether any value is prices of the board."""
    if not isinstance(value, tuple) or len(value) != board[0]:
        return False
    if not all([is_amount(price) and price > 0 for price in value]):
        return False
    return all([value[a] * x >= value[b] * y for a, x, b, y in board[1]])


def is_gaining_loop(board, value):
    """Whether any value is a loop that gains."""
    offers = board[1]
    if not isinstance(value, tuple) or not all([is_within(index, 0, len(offers) - 1) for index in value]):
        return False
    after = value[1:] + value[:1]
    linked = all([offers[value[at]][2] == offers[after[at]][0] for at in range(len(value))])
    return linked and gains(board, value)


def gains(board, indexes):
    """Whether these offers together give more than they take; none if one gives 0."""
    taken = 1
    given = 1
    for index in indexes:
        taken *= board[1][index][1]
        given *= board[1][index][3]
    return given > taken


def loop_purse(board, indexes):
    """The purse with which a loop that gains leaves no rest, and the way around it."""
    if not is_gaining_loop(board, indexes):
        raise BadLoop(indexes)
    loop = [board[1][index] for index in indexes]
    if len({offer[0] for offer in loop}) < len(loop):
        raise BadLoop(indexes)
    times = [1]
    for before, offer in zip(loop, loop[1:]):
        given = times[-1] * before[3]
        # with a lesser factor the offer would leave a rest
        factor = offer[1] // gcd(given, offer[1])
        times = [number * factor for number in times] + [given * factor // offer[1]]
    amounts = [0] * board[0]
    amounts[loop[0][0]] = times[0] * loop[0][1]
    return tuple(amounts), tuple(zip(indexes, times))


def leads(board, one, other):
    """Whether the kind one leads to the kind other."""
    for kind in (one, other):
        if not is_within(kind, 0, board[0] - 1):
            raise NoKind(kind)
    return other in leads_from(board, one)


def ratio(board, one, other):
    """The best ratio as (num, den) in lowest terms, or None if one does not lead to other."""
    best = best_between(board, one, other)
    if best is None:
        return None
    num, den, _ = best
    return num // gcd(num, den), den // gcd(num, den)


def best_trail(board, one, other):
    """The trail with the best ratio and the fewest offers, or None."""
    best = best_between(board, one, other)
    return None if best is None else best[2]


def best_between(board, one, other):
    """The best (num, den, trail) from one to other, or None; NoKind, Endless."""
    if not leads(board, one, other):
        return None
    between = [kind for kind in leads_from(board, one) if other in leads_from(board, kind)]
    if gaining_loop(board, between) is not None:
        raise Endless()
    return best_trails(board, one, between)[other]


def leads_from(board, kind):
    """The ascending list of the kinds to which the kind leads."""
    found = {kind: True}
    for _ in range(board[0]):
        for a, _, b, y in board[1]:
            if y > 0 and a in found:
                found[b] = True
    return sorted(found)


def best_offers(board, kinds):
    """For each two of the kinds the index of the offer with the greatest ratio, if any."""
    best = {}
    for index, (a, x, b, y) in enumerate(board[1]):
        if y > 0 and a in kinds and b in kinds:
            rival = board[1][best.get((a, b), index)]
            if (a, b) not in best or y * rival[1] > rival[3] * x:
                best[a, b] = index
    return best


def gaining_loop(board, kinds):
    """A loop of these kinds that gains and takes none twice, from its least index, or None."""
    best = best_offers(board, kinds)
    paths = [(kind,) for kind in kinds]
    while paths:
        for path in paths:
            loop = [best.get(pair) for pair in zip(path, path[1:] + path[:1])]
            if None not in loop and gains(board, loop):
                # offers ascend by the kind that they take, and path begins with its least kind
                return tuple(loop)
        paths = [path + (kind,) for path in paths for kind in kinds if kind > path[0] and kind not in path]
    return None


def best_trails(board, one, kinds):
    """For each kind to which one leads within kinds the best (num, den, trail).

    No loop of these kinds gains, so that trails without a kind twice are enough.
    """
    best = best_offers(board, kinds)
    found = {one: (1, 1, ())}
    for _ in range(len(kinds) - 1):
        # trails grow by one offer a turn, and only for more: so they are as short as can be
        known = dict(found)
        for (a, b), index in best.items():
            if a in known:
                num, den, trail = known[a]
                num *= board[1][index][3]
                den *= board[1][index][1]
                if b not in found or num * found[b][1] > found[b][0] * den:
                    found[b] = (num, den, trail + (index,))
    return found
