"""The classes of purses for a goal, and the least losses on ways between them."""

from heapq import heappop, heappush
from math import gcd, lcm

from smallchange.checks import is_within
from smallchange.errors import Endless, NoKind
from smallchange.lattices import Lattice, less
from smallchange.prices import best_trails, gaining_loop, leads_from


class Move:
    """What leads from class to class: a use of an offer, or throwing away one of a kind.

    index is that of the offer, None for throwing away; vector tells how much
    more there is of the kinds in places.
    """

    def __init__(self, index, vector, loss):
        self.index = index
        self.vector = vector
        self.loss = loss


class Classes:
    """All about one kind of a board, the goal, to which the counted kinds lead.

    places are the counted kinds that tell a class: all but the goal. trails
    has for each counted kind a trail to the goal with the best ratio.
    """

    def __init__(self, board, goal, counted):
        self.board = board
        self.goal = goal
        self.counted = counted
        self.places = [kind for kind in counted if kind != goal]
        self.trails = {}
        self.weights = self.told_weights()
        self.losses = tuple([self.weights[a] * x - self.weights[b] * y for a, x, b, y in board[1]])
        self.uses = [Move(index, self.vector_of(offer), self.losses[index])
                     for index, offer in enumerate(board[1]) if offer[0] in counted]
        self.tight = [move for move in self.uses if move.loss == 0]
        self.lattice = Lattice(len(self.places), [move.vector for move in self.tight])

    def told_weights(self):
        """The weights; the trails are kept on the way."""
        ratios = {}
        common = 1
        for kind in self.counted:
            num, den, self.trails[kind] = best_trails(self.board, kind, self.counted)[self.goal]
            ratios[kind] = (num, den)
            common = lcm(common, den)
        divisor = 0
        for num, den in ratios.values():
            divisor = gcd(divisor, common // den * num)
        weights = [0] * self.board[0]
        for kind, (num, den) in ratios.items():
            weights[kind] = common // den * num // divisor
        return tuple(weights)

    def vector_of(self, offer):
        """How much more a use of the offer leaves, place by place."""
        a, x, b, y = offer
        change = [0] * self.board[0]
        change[a] = -x
        change[b] = y
        return self.placed(change)

    def class_of(self, purse):
        """What stands for the class of the purse."""
        return self.lattice.reduced(self.placed(purse))

    def placed(self, purse):
        """The amounts of the purse, place by place."""
        return tuple([purse[kind] for kind in self.places])

    def worth_of(self, purse):
        """The worth of the purse."""
        return sum([amount * weight for amount, weight in zip(purse, self.weights)])

    def moves(self):
        """The list of the moves that lead to another class, only the cheapest of several alike."""
        found = {}
        for move in self.uses + self.throws():
            key = self.lattice.reduced(move.vector)
            if any(key) and (key not in found or move.loss < found[key].loss):
                found[key] = move
        return list(found.values())

    def throws(self):
        """The list of the moves that throw away one of a kind."""
        return [Move(None, tuple([-1 if place == kind else 0 for place in self.places]), self.weights[kind])
                for kind in self.places]

    def paths(self):
        """For each class (loss, move, next class) of a path with the least loss to the class of zeros."""
        moves = self.moves()
        start = (0,) * len(self.places)
        found = {start: (0, None, None)}
        queue = [(0, start)]
        while queue:
            loss, after = heappop(queue)
            if loss > found[after][0]:
                continue
            for move in moves:
                before = self.lattice.reduced(less(after, move.vector, 1))
                hope = loss + move.loss
                if before not in found or hope < found[before][0]:
                    found[before] = (hope, move, after)
                    heappush(queue, (hope, before))
        return found


def classes_for(board, kind):
    """The classes for any value as the goal; NoKind, Endless."""
    if not is_within(kind, 0, board[0] - 1):
        raise NoKind(kind)
    counted = [one for one in range(board[0]) if kind in leads_from(board, one)]
    if gaining_loop(board, counted) is not None:
        raise Endless()
    return Classes(board, kind, counted)
