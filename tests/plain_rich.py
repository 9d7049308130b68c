"""Plain reckoning on weights and classes, by the words of points 14 and 15."""

from fractions import Fraction
from itertools import combinations, permutations
from math import gcd

from plain_boards import plain_loops, plain_trails


def counted_kinds(board, goal):
    """The kinds that lead to the goal."""
    return [kind for kind in range(board[0]) if any(end == goal for end, _, _ in plain_trails(board, kind))]


def has_gaining_loop(board, goal):
    """Whether some loop that gains takes a kind that leads to the goal."""
    counted = counted_kinds(board, goal)
    return any(worth > 1 and board[1][index][0] in counted
               for worth, indexes in plain_loops(board) for index in indexes)


def plain_weights(board, goal):
    counted = counted_kinds(board, goal)
    ratios = [max(worth for end, worth, _ in plain_trails(board, kind) if end == goal) if kind in counted
              else Fraction(0) for kind in range(board[0])]
    factor = 1
    while any((ratio * factor).denominator > 1 for ratio in ratios):
        factor += 1
    whole = [int(ratio * factor) for ratio in ratios]
    divisor = 0
    for weight in whole:
        divisor = gcd(divisor, weight)
    return tuple(weight // divisor for weight in whole)


def plain_losses(board, goal):
    told = plain_weights(board, goal)
    return tuple(told[a] * x - told[b] * y for a, x, b, y in board[1])


def vector(board, places, offer):
    a, x, b, y = offer
    change = [0] * board[0]
    change[a] -= x
    change[b] += y
    return tuple(change[kind] for kind in places)


def determinant(rows):
    total = 0
    for order in permutations(range(len(rows))):
        worth = 1
        for at, place in enumerate(order):
            worth *= rows[at][place]
            worth *= (-1) ** sum(other > place for other in order[:at])
        total += worth
    return total


def index_of(rows, size):
    """The number of classes of vectors that differ by multiples of the rows: the divisor of all minors."""
    divisor = 0
    for chosen in combinations(rows, size):
        divisor = gcd(divisor, determinant(chosen))
    return divisor


class PlainClasses:
    """The classes of a goal; vectors are in one class if their difference, put to the tight ones, changes nothing."""

    def __init__(self, board, goal):
        self.board = board
        self.weights = plain_weights(board, goal)
        self.counted = counted_kinds(board, goal)
        self.places = [kind for kind in self.counted if kind != goal]
        self.losses = plain_losses(board, goal)
        rows = [vector(board, self.places, offer) for offer, loss in zip(board[1], self.losses)
                if offer[0] in self.counted and loss == 0]
        self.rows = sorted(set(rows))
        self.order = index_of(self.rows, len(self.places))

    def placed(self, purse):
        return tuple(purse[kind] for kind in self.places)

    def alike(self, one, other):
        """Whether two vectors are in one class."""
        apart = tuple(x - y for x, y in zip(one, other))
        return index_of(self.rows + [apart], len(self.places)) == self.order

    def class_of(self, vectors, wanted):
        return next(at for at, one in enumerate(vectors) if self.alike(one, wanted))

    def least_vectors(self):
        """The least vector from 0 on of each class, ascending: all vectors are tried in order."""
        found = []
        top = self.order
        tries = [()]
        for _ in self.places:
            tries = [one + (amount,) for one in tries for amount in range(top)]
        for one in tries:
            if len(found) == self.order:
                break
            if not any(self.alike(one, other) for other in found):
                found.append(one)
        return found

    def least_losses(self, vectors):
        """The lack of each of these vectors, one of each class, by trying all moves again and again."""
        moves = [(vector(self.board, self.places, offer), loss) for offer, loss in zip(self.board[1], self.losses)
                 if offer[0] in self.counted]
        for at, kind in enumerate(self.places):
            moves.append((tuple(-1 if place == at else 0 for place in range(len(self.places))), self.weights[kind]))
        zero = self.class_of(vectors, (0,) * len(self.places))
        ends = [[(self.class_of(vectors, tuple(x + y for x, y in zip(one, change))), loss) for change, loss in moves]
                for one in vectors]
        least = [10 ** 9] * len(vectors)
        least[zero] = 0
        for _ in vectors:
            least = [min([least[at]] + [least[end] + loss for end, loss in ends[at]]) for at in range(len(vectors))]
        return least
