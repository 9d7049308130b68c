"""Gains: amounts that come back with more, and purses that exclude it."""

from smallchange.bounds import MAX_GAIN
from smallchange.errors import TooMany
from smallchange.generals import is_cover, lies_under
from smallchange.prices import gaining_loop, leads_from
from smallchange.searches import Search
from smallchange.trees import Tree, way_to
from smallchange.ways import end_of, joined


class Inner:
    """A board of its own with the offers that are inner for one kind of a board.

    indexes tells which offers of the board these are.
    """

    def __init__(self, board, kind):
        self.kinds = back_kinds(board, kind)
        self.indexes = [index for index, (a, _, b, _) in enumerate(board[1]) if a in self.kinds and b in self.kinds]
        self.board = (board[0], tuple([board[1][index] for index in self.indexes]))

    def gains(self):
        """Whether some amounts have a gain."""
        return gaining_loop(self.board, self.kinds) is not None

    def has_gain(self, purse):
        """Whether the purse, which has back kinds alone, has a gain."""
        return endless_node(Tree(self.board, purse)) is not None

    def least_amount(self, kind, most):
        """The least amount of the kind with a gain, if there is one; TooMany if it is above most."""
        low = 0
        high = most
        if not self.has_gain(alone(self.board, kind, high)):
            raise TooMany()
        while high - low > 1:
            middle = (low + high) // 2
            if self.has_gain(alone(self.board, kind, middle)):
                high = middle
            else:
                low = middle
        return high

    def told(self, steps):
        """The runs and rounds with the indexes of the whole board."""
        found = []
        for step, times in steps:
            found.append((self.told(step) if isinstance(step, tuple) else self.indexes[step], times))
        return tuple(found)


def endless_node(tree):
    """A node with endless kinds, or None; by inner offers all back kinds are endless together."""
    for node in tree.highest():
        if None in node.general:
            return node
    return None


def alone(board, kind, amount):
    """The purse with this amount of the kind and nothing else."""
    amounts = [0] * board[0]
    amounts[kind] = amount
    return tuple(amounts)


def back_kinds(board, kind):
    """The ascending tuple of the kinds to which the kind leads and which lead to it."""
    return tuple([other for other in leads_from(board, kind) if kind in leads_from(board, other)])


def gain_from(board, a, x):
    """("gain", way) for x of a, or ("closed", purses) that exclude it."""
    inner = Inner(board, a)
    tree = Tree(inner.board, alone(board, a, x))
    node = endless_node(tree)
    if node is None:
        return "closed", tree.least_cover()
    return "gain", inner.told(way_to(inner.board, node, alone(board, a, x + 1)))


def gain_holds(board, a, x, value):
    """Whether any value is such a result as gain_from tells."""
    if not isinstance(value, tuple) or len(value) != 2:
        return False
    purse = alone(board, a, x)
    if value[0] == "gain":
        end = end_of(board, purse, value[1])
        return end is not None and end != purse and lies_under(purse, end)
    return value[0] == "closed" and is_closed(board, a, purse, value[1])


def is_closed(board, a, purse, value):
    """Whether inner offers keep to the purses of any value, and none but this purse has as much of a."""
    if not is_cover(Inner(board, a).board, purse, value):
        return False
    return all([None not in item and (item[a] < purse[a] or item == purse) for item in value])


def least_gain(board, a):
    """The least amount of a that has a gain, or None; TooMany."""
    inner = Inner(board, a)
    return inner.least_amount(a, MAX_GAIN) if inner.gains() else None


def shortest_gain(board, a):
    """A gain of the least amount with the fewest uses, or None; TooMany."""
    inner = Inner(board, a)
    if not inner.gains():
        return None
    purse = alone(board, a, inner.least_amount(a, MAX_GAIN))
    goals = []
    for kind in inner.kinds:
        goal = list(purse)
        goal[kind] += 1
        goals.append(tuple(goal))
    # offers that are not inner only take what inner offers can use
    indexes = Search(Tree(inner.board, purse), purse, goals).shortest()
    if indexes is None:
        raise TooMany()
    return inner.told(joined([(index, 1) for index in indexes]))


def stair(board, a, b):
    """The ascending tuple of the least pairs of amounts of a and b with a gain, or None; TooMany."""
    inner = Inner(board, a)
    if b not in inner.kinds:
        return None
    if not inner.gains():
        return ()
    most = inner.least_amount(a, MAX_GAIN)
    y = inner.least_amount(b, MAX_GAIN)
    pairs = [(0, y)]
    for x in range(1, most + 1):
        while y > 0 and inner.has_gain(pair_alone(board, (a, x), (b, y - 1))):
            y -= 1
        if y < pairs[-1][1]:
            pairs.append((x, y))
    return tuple(pairs)


def pair_alone(board, one, other):
    """The purse with two amounts, as (kind, amount), and nothing else."""
    amounts = [0] * board[0]
    for kind, amount in (one, other):
        amounts[kind] = amount
    return tuple(amounts)
