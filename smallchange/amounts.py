"""The most that comes of an amount of a kind, for all amounts."""

from smallchange.gains import Inner
from smallchange.prices import gaining_loop, leads_from, loop_purse
from smallchange.rules import first_above, least_for, values_to
from smallchange.yields import Kept, Yields


def amount_rule(board, a, c):
    """The rule of the yields; Endless."""
    return Yields(board, a, c).rule()


def amount_way(board, a, c, x):
    """A way without offers from c to the yield of x; Endless."""
    return Yields(board, a, c).way(x)


def least_amount(board, a, c, y):
    """The least amount whose yield is at least y, or None; Endless."""
    return least_for(amount_rule(board, a, c), y)


def endless_from(board, a, c):
    """The least amount whose yield is endless, or None."""
    kept = Kept(board, a, c).board
    inner = Inner(kept, a)
    loop = gaining_loop(kept, inner.kinds)
    if loop is None or c not in leads_from(kept, a):
        return None
    while kept[1][loop[0]][0] != a:
        loop = loop[1:] + loop[:1]
    # run without a rest, the loop surely gains
    return inner.least_amount(a, loop_purse(kept, loop)[0][a])


def first_unlike(one, other, a, c):
    """The least amount whose yields by two boards are unlike, or None."""
    return unlike_at(all_yields(one, a, c), all_yields(other, a, c))


def idle_offers(board, a, c):
    """The ascending tuple of the indexes of offers without each of which no yield is another one."""
    whole = all_yields(board, a, c)
    idle = []
    for index, offer in enumerate(board[1]):
        rest = (board[0], board[1][:index] + board[1][index + 1:])
        if offer[0] == c or unlike_at(whole, all_yields(rest, a, c)) is None:
            idle.append(index)
    return tuple(idle)


def all_yields(board, a, c):
    """(limit, rule): the yields are endless from limit on, or else None, and told by the rule ahead of it."""
    limit = endless_from(board, a, c)
    if limit is None:
        return None, amount_rule(board, a, c)
    return limit, (tuple(yields_below(Kept(board, a, c), limit)), 1, 0)


def yields_below(kept, limit):
    """The list of the yields of all amounts less than limit, none of which is endless."""
    afters = {}
    queue = [(limit - 1, 0)]
    while queue:
        state = queue.pop()
        if state not in afters:
            afters[state] = states_after(kept, state)
            queue.extend([after for after, _ in afters[state]])
    most = {state: 0 for state in afters}
    states = sorted(afters, key=sum)
    changed = True
    while changed:
        changed = False
        for state in states:
            best = max([most[after] + got for after, got in afters[state]], default=0)
            if best > most[state]:
                most[state] = best
                changed = True
    return [most[x, 0] for x in range(limit)]


def states_after(kept, state):
    """The pairs (state, what is got of c) behind the steps that run on a state: on amounts of a and between."""
    found = []
    for step in kept.steps:
        after = tuple([state[at] - step.taken[at] + step.given[at] for at in range(2)])
        if state[0] >= step.taken[0] and state[1] >= step.taken[1] and after[1] <= kept.room:
            found.append((after, step.got))
    return found


def unlike_at(one, other):
    """The least amount at which two told yields are unlike, or None."""
    limits = [limit for limit, _ in (one, other) if limit is not None]
    if not limits:
        places = [first_above(one[1], other[1]), first_above(other[1], one[1])]
        return min([place for place in places if place is not None], default=None)
    least = min(limits)
    for x, (left, right) in enumerate(zip(values_to(one[1], least), values_to(other[1], least))):
        if left != right:
            return x
    return None if one[0] == other[0] else least
