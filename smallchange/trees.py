"""Trees of the general purses that are open from a purse, with ways to them."""

from heapq import heappop, heappush

from smallchange.generals import Shelf, lies_under, outcome
from smallchange.prices import leads_from, worths
from smallchange.ways import change_of, joined, need_for, need_of


class Node:
    """A general purse that is open, behind the node from which it is come to.

    Runs lead to it, each use once; or, for a lifted node, turns of these runs
    lead to as much as anybody wants of the kinds that have None only here.
    """

    def __init__(self, general, before, runs, lifted):
        self.general = general
        self.before = before
        self.runs = runs
        self.lifted = lifted


class Tree:
    """All that ways from a purse lead to, by open general purses.

    A kind of which there is no end makes all kinds endless to which it leads,
    so that no way needs to take of it any more, and no loop to give it back.
    What grows is lifted over what it has grown from, and stands only if it
    lies under no other one: so there is an end to growing.
    """

    def __init__(self, board, purse):
        self.board = board
        self.leads = [leads_from(board, kind) for kind in range(board[0])]
        self.weights = weights_of(board)
        self.nodes = []
        self.shelf = Shelf(board[0])
        self.queue = []
        self.keep(Node(purse, None, (), False))
        while self.queue:
            number = heappop(self.queue)[2]
            if self.is_highest(number):
                self.grow(self.nodes[number])

    def keep(self, node):
        """Puts the node into the tree; what is worth most grows first."""
        ends = node.general.count(None)
        worth = sum([weight * amount for weight, amount in zip(self.weights, node.general) if amount is not None])
        heappush(self.queue, (-ends, -worth, len(self.nodes)))
        self.nodes.append(node)
        self.shelf.put(node.general)

    def is_highest(self, number):
        """Whether the node with this number lies under no other one."""
        return self.shelf.over(self.nodes[number].general) == 1 << number

    def grow(self, node):
        """Puts the outcomes of the node that lie under no node into the tree."""
        for index, offer in enumerate(self.board[1]):
            amount = node.general[offer[0]]
            if amount is not None and amount >= offer[1]:
                general = outcome(offer, node.general)
                if self.shelf.over(general) == 0:
                    self.keep(self.raised(Node(general, node, ((index, 1),), False)))

    def raised(self, node):
        """The node, lifted for each earlier one on its path that lies under it and has less."""
        past = node.before
        while past is not None:
            if lies_under(past.general, node.general):
                more = [kind for kind, amount in enumerate(past.general) if amount != node.general[kind]]
                more = [kind for kind in more if node.general[kind] is not None]
                if more:
                    node = self.lift(node, past, more)
                    past = node
            past = past.before
        return node

    def lift(self, node, past, more):
        """The lifted node behind node: the path from past to it gives more of these kinds."""
        runs = []
        at = node
        while at != past:
            if not at.lifted and node.general[self.board[1][at.runs[0][0]][0]] is not None:
                runs.append(at.runs[0])
            at = at.before
        amounts = list(node.general)
        for kind in more:
            for end in self.leads[kind]:
                amounts[end] = None
        return Node(tuple(amounts), node, joined(runs[::-1]), True)

    def highest(self):
        """The nodes that lie under no other one, in the order of their general purses."""
        nodes = [node for number, node in enumerate(self.nodes) if self.is_highest(number)]
        return sorted(nodes, key=place_of)

    def least_cover(self):
        """The least cover of the purse, in ascending order."""
        return tuple([node.general for node in self.highest()])

    def has(self, goal):
        """Whether some way leads to a purse under which goal lies."""
        return self.shelf.over(goal) != 0


def weights_of(board):
    """Prices of the board, or 1 for each kind if it has none."""
    word, told = worths(board)
    return told if word == "prices" else (1,) * board[0]


def place_of(node):
    """What tells the place of the node's general purse, None behind all integers."""
    return tuple([(1, 0) if amount is None else (0, amount) for amount in node.general])


def way_to(board, node, goal):
    """A way to a purse under which goal lies, which lies under the node's general purse."""
    steps = []
    wanted = goal
    while node.before is not None:
        last = lifting_steps(board, node, wanted) if node.lifted else node.runs
        wanted = need_for(board, last, wanted)
        steps.extend(last[::-1])
        node = node.before
    return joined(steps[::-1])


def lifting_steps(board, node, wanted):
    """The steps from the node before a lifted node to as much as is wanted."""
    base = node.before.general
    change = change_of(board, node.runs)
    kinds = [kind for kind in range(board[0]) if base[kind] is not None and node.general[kind] is None]
    looped = [kind for kind in kinds if change[kind] > 0]
    steps = []
    for kind in kinds:
        # for a kind of the loop itself the trail is empty
        if wanted[kind] > base[kind]:
            steps.extend(runs_along(board, trail_to(board, looped, kind), wanted[kind] - base[kind]))
    left = need_for(board, steps, wanted)
    times = max([(left[kind] - base[kind] + change[kind] - 1) // change[kind] for kind in looped])
    return ((node.runs, times),) + tuple(steps) if times > 0 else tuple(steps)


def trail_to(board, starts, kind):
    """The indexes of offers, as few as can be, that lead from one of the starts to the kind."""
    trails = {start: () for start in starts}
    while kind not in trails:
        known = list(trails)
        for index, (a, _, b, y) in enumerate(board[1]):
            if y > 0 and a in known and b not in trails:
                trails[b] = trails[a] + (index,)
    return trails[kind]


def runs_along(board, trail, amount):
    """Runs along the trail that come to at least this amount at its end."""
    runs = []
    for index in trail[::-1]:
        _, x, _, y = board[1][index]
        times = (amount + y - 1) // y
        runs.append((index, times))
        amount = times * x
    return runs[::-1]


def endless_ways(board, node, kind):
    """A way, and one that leads from its end to no less of any kind and to more of this one."""
    while node.before is not None and node.before.general[kind] is None:
        node = node.before
    # node is the lifted one that made the kind endless
    wanted = [0 if amount is None else amount for amount in node.before.general]
    wanted[kind] += 1
    again = joined(lifting_steps(board, node, wanted))
    return way_to(board, node.before, need_of(board, again)), again
