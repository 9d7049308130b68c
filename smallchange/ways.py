"""Ways: uses of offers, one after another, and what they need and change.

A tally is the pair (need, change) of a way, each with an integer for each kind.
"""

from smallchange.checks import is_within
from smallchange.errors import Stuck

MAX_TIMES = 10 ** 30


def walk(board, purse, way):
    """The purse to which the way leads; Stuck if it cannot be walked."""
    kinds = range(board[0])
    amounts = purse
    for index, step in enumerate(way):
        need, change = step_tally(board, step)
        if any([amounts[kind] < need[kind] for kind in kinds]):
            raise Stuck(index)
        amounts = tuple([amounts[kind] + change[kind] for kind in kinds])
    return amounts


def need_of(board, way):
    """The least purse from which the way can be walked."""
    return way_tally(board, way)[0]


def change_of(board, way):
    """How much more of each kind there is behind the way."""
    return way_tally(board, way)[1]


def need_for(board, way, goal):
    """The least purse from which the way leads to a purse under which goal lies."""
    need, change = way_tally(board, way)
    return tuple([max(need[kind], goal[kind] - change[kind]) for kind in range(board[0])])


def way_tally(board, way):
    """The tally of a way."""
    kinds = range(board[0])
    need = (0,) * board[0]
    change = need
    for step in way:
        asked, changed = step_tally(board, step)
        need = tuple([max(need[kind], asked[kind] - change[kind]) for kind in kinds])
        change = tuple([change[kind] + changed[kind] for kind in kinds])
    return need, change


def step_tally(board, step):
    """The tally of a run or a round."""
    if not isinstance(step[0], tuple):
        return run_tally(board, step)
    runs, times = step
    need, change = way_tally(board, runs)
    # each turn changes as much as the one before, so the first or the last asks for most
    most = [max(need[kind], need[kind] - (times - 1) * change[kind]) for kind in range(board[0])]
    return tuple(most), tuple([times * more for more in change])


def run_tally(board, run):
    """The tally of a run."""
    index, times = run
    a, x, b, y = board[1][index]
    need = [0] * board[0]
    change = [0] * board[0]
    need[a] = times * x
    change[a] = -times * x
    change[b] = times * y
    return tuple(need), tuple(change)


def is_way(board, value):
    """Whether any value is a way, with any number of steps."""
    return isinstance(value, tuple) and all([is_run(board, step) or is_round(board, step) for step in value])


def is_run(board, value):
    """Whether any value is a run."""
    return is_repeated(value) and is_within(value[0], 0, len(board[1]) - 1)


def is_round(board, value):
    """Whether any value is a round."""
    if not is_repeated(value) or not isinstance(value[0], tuple) or len(value[0]) == 0:
        return False
    return all([is_run(board, run) for run in value[0]])


def is_repeated(value):
    """Whether any value is a pair of anything and a number of times."""
    return isinstance(value, tuple) and len(value) == 2 and is_within(value[1], 1, MAX_TIMES)


def end_of(board, purse, value):
    """The purse to which any value leads, or None if it is no way that can be walked."""
    if not is_way(board, value):
        return None
    try:
        return walk(board, purse, value)
    except Stuck:
        return None


def joined(way):
    """The way with neighbouring runs of one offer as one run."""
    steps = []
    for step in way:
        if steps and not isinstance(step[0], tuple) and steps[-1][0] == step[0]:
            steps[-1] = (step[0], steps[-1][1] + step[1])
        else:
            steps.append(step)
    return tuple(steps)
