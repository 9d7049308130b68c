"""The yields of all amounts of a kind: the most of a kept kind that comes of them."""

from heapq import heappop, heappush
from math import gcd

from smallchange.classes import classes_for
from smallchange.prices import leads_from
from smallchange.rules import told
from smallchange.ways import joined


class Kept:
    """A board without the offers from the kind c, for amounts of the kind a.

    indexes tells which offers of the whole board it has. between is the kind,
    if any, on the way from a to c; steps are the uses that can be of use.
    """

    def __init__(self, board, a, c):
        self.a = a
        self.c = c
        self.indexes = [index for index, offer in enumerate(board[1]) if offer[0] != c]
        self.board = (board[0], tuple([board[1][index] for index in self.indexes]))
        useful = [kind for kind in leads_from(self.board, a) if c in leads_from(self.board, kind)]
        others = [kind for kind in useful if kind not in (a, c)]
        self.between = others[0] if others else None
        self.steps = [Step(self, index, offer) for index, offer in enumerate(self.board[1])
                      if offer[3] > 0 and offer[0] in useful and offer[2] in useful]
        self.steps.extend([Step(self, None, (kind, 1, c, 0)) for kind in useful if kind != c])
        # who has enough of the kind between for each step that takes it need not make more of it yet
        enough = max([step.taken[1] for step in self.steps], default=0)
        self.room = max(0, enough - 1) + max([step.given[1] for step in self.steps], default=0)


class Step:
    """A use of an offer of a kept board, or throwing away one of a kind, with None as the index.

    It tells what is taken and given of a and of the kind between, and what is got of c.
    """

    def __init__(self, kept, index, offer):
        a, x, b, y = offer
        self.index = index
        self.taken = (x if a == kept.a else 0, x if a == kept.between else 0)
        self.given = (y if b == kept.a else 0, y if b == kept.between else 0)
        self.got = y if b == kept.c else 0


class Mark:
    """From this amount of a and rest of the kind between no more than loss is lost on the way to c.

    The way begins with the step and goes on from the mark after; both are None for the mark of nothing.
    """

    def __init__(self, loss, amount, rest, step, after):
        self.loss = loss
        self.amount = amount
        self.rest = rest
        self.step = step
        self.after = after


class Yields:
    """The yields of a board by which no amount is endless, by losses against the best ratio.

    Once a turn is reached, an amount of a of which nothing is lost, each
    amount loses no more than the one a turn before it. So for each rest of
    the turn, and of the kind between, rows has marks with ever more loss and
    ever less amount: all that can be had.
    """

    def __init__(self, board, a, c):
        self.kept = Kept(board, a, c)
        classes = classes_for(self.kept.board, c)
        self.unit = classes.weights[c]
        between = self.kept.between
        self.worths = (classes.weights[a], 0 if between is None else classes.weights[between])
        self.turn, self.runs = turn_along(self.kept.board, classes.trails.get(a, ()))
        self.losses = [self.loss_of(step) for step in self.kept.steps]
        self.rows = {}
        self.spread()

    def loss_of(self, step):
        """What is lost by the step."""
        left = sum([worth * (step.taken[at] - step.given[at]) for at, worth in enumerate(self.worths)])
        return left - self.unit * step.got

    def spread(self):
        """Finds all marks, from the one of nothing on, those with the least losses first."""
        steps = [None] + self.kept.steps
        marks = [None]
        queue = [(0, 0, 0, 0, 0)]
        while queue:
            loss, amount, rest, first, after = heappop(queue)
            if not self.is_less(amount, rest):
                continue
            mark = Mark(loss, amount, rest, steps[first], marks[after])
            self.rows.setdefault((amount % self.turn, rest), []).append(mark)
            for at in range(1, len(steps)):
                start, before = self.ahead_of(mark, steps[at])
                if before >= steps[at].taken[1] and before <= self.kept.room and self.is_less(start, before):
                    heappush(queue, (loss + self.losses[at - 1], start, before, at, len(marks)))
            marks.append(mark)

    def ahead_of(self, mark, step):
        """The least amount of a, and the rest, with which the step leads to the mark."""
        enough = mark.amount + self.turns_to(step.given[0] - mark.amount)
        return enough - step.given[0] + step.taken[0], mark.rest - step.given[1] + step.taken[1]

    def turns_to(self, missing):
        """The least number of whole turns, in amounts, that is not less than missing and 0."""
        return max(0, missing + self.turn - 1) // self.turn * self.turn

    def is_less(self, amount, rest):
        """Whether no mark found so far has as little of a for the same rests."""
        row = self.rows.get((amount % self.turn, rest), [])
        return not row or amount < row[-1].amount

    def mark_for(self, x):
        """The mark with the least loss for x of a."""
        for mark in self.rows[x % self.turn, 0]:
            if mark.amount <= x:
                return mark
        return None

    def yield_of(self, x):
        """The yield of x."""
        return (self.worths[0] * x - self.mark_for(x).loss) // self.unit

    def rule(self):
        """The rule of the yields."""
        late = max([self.rows[rest, 0][0].amount for rest in range(self.turn)])
        values = [self.yield_of(x) for x in range(late + self.turn)]
        return told(values, self.turn, self.worths[0] * self.turn // self.unit)

    def way(self, x):
        """A way from x of a to the yield of x."""
        runs = []
        mark = self.mark_for(x)
        while mark is not None:
            turns = (x - mark.amount) // self.turn
            if turns > 0:
                runs.extend([(index, turns * times) for index, times in self.runs])
            if mark.step is not None:
                x = mark.amount - mark.step.taken[0] + mark.step.given[0]
                if mark.step.index is not None:
                    runs.append((mark.step.index, 1))
            mark = mark.after
        return joined([(self.kept.indexes[index], times) for index, times in runs])


def turn_along(board, trail):
    """An amount that the trail uses up without a rest, and the runs along it."""
    amount = 1
    runs = []
    given = 1
    for index in trail:
        _, x, _, y = board[1][index]
        factor = x // gcd(given, x)
        runs = [(place, times * factor) for place, times in runs]
        amount *= factor
        runs.append((index, given * factor // x))
        given = given * factor // x * y
    return amount, runs
