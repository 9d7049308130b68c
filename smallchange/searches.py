"""The shortest ways, looked for from both of their ends at once."""

from smallchange.bounds import MAX_USES
from smallchange.generals import Shelf, outcome, runs_on


class Side:
    """One end of a search, and what is come to from its starts, turn by turn.

    steps tells from which purse, and by which offer, each one is come to.
    Those of use are kept: all of them in kept, those of the last turn in
    front, and on the shelf what tells whether one more is of use.
    """

    def __init__(self, kinds, starts):
        self.steps = {start: None for start in starts}
        self.shelf = Shelf(kinds)
        self.kept = []
        self.front = []

    def is_new(self, purse, before, index):
        """Whether the purse is come to for the first time; then its step is told."""
        if purse in self.steps:
            return False
        self.steps[purse] = (before, index)
        return True

    def advance(self, pairs):
        """Keeps the purses that are of use, of pairs (purse, what of it is shelved)."""
        self.front = []
        for purse, shelved in pairs:
            if self.shelf.over(shelved) == 0:
                self.shelf.put(shelved)
                self.kept.append(purse)
                self.front.append(purse)

    def trail(self, purse):
        """The indexes of the offers from the purse back to a start."""
        indexes = []
        while self.steps[purse] is not None:
            purse, index = self.steps[purse]
            indexes.append(index)
        return indexes


class Search:
    """A search for the shortest way from a purse to one of some goals.

    It goes on from the purse to purses that lie under no earlier ones, and
    back from the goals to needs over no earlier ones: to the least purses from
    which so many uses lead to a goal.
    """

    def __init__(self, tree, purse, goals):
        self.tree = tree
        self.offers = tree.board[1]
        # no need has more of a kind; what a need lacks to this is shelved, so that the least stand highest
        self.top = max([max(goal) for goal in goals]) + MAX_USES * max([offer[1] for offer in self.offers], default=0)
        self.ahead = Side(len(purse), [purse])
        self.behind = Side(len(purse), goals)
        self.keep_ahead([purse])
        self.keep_behind(goals)

    def shortest(self):
        """The indexes of the offers of a shortest way, or None for more than MAX_USES."""
        indexes = self.met()
        uses = 0
        while indexes is None and uses < MAX_USES:
            if len(self.ahead.front) <= len(self.behind.front):
                self.go_on()
            else:
                self.go_back()
            indexes = self.met()
            uses += 1
        return indexes

    def met(self):
        """The indexes of the offers of a way on which both sides meet, or None."""
        for need in self.behind.front:
            over = self.ahead.shelf.over(need)
            if over != 0:
                purse = self.ahead.kept[over.bit_length() - 1]
                return self.ahead.trail(purse)[::-1] + self.behind.trail(need)
        return None

    def go_on(self):
        """A turn from the purse: one more use."""
        found = []
        for purse in self.ahead.front:
            for index, offer in enumerate(self.offers):
                if runs_on(offer, purse):
                    after = outcome(offer, purse)
                    if self.ahead.is_new(after, purse, index):
                        found.append(after)
        self.keep_ahead(found)

    def go_back(self):
        """A turn from the goals: one more use ahead of them."""
        found = []
        for need in self.behind.front:
            for index, offer in enumerate(self.offers):
                before = need_before(offer, need)
                if self.behind.is_new(before, need, index) and self.tree.has(before):
                    found.append(before)
        self.keep_behind(found)

    def keep_ahead(self, purses):
        """Keeps the purses of a turn that are of use, the greatest ones first."""
        self.ahead.advance([(purse, purse) for purse in sorted(purses, key=sum, reverse=True)])

    def keep_behind(self, needs):
        """Keeps the needs of a turn that are of use, the least ones first."""
        self.behind.advance([(need, self.rest_of(need)) for need in sorted(needs, key=sum)])

    def rest_of(self, need):
        """What the need lacks to more of each kind than any need has."""
        return tuple([self.top - amount for amount in need])


def need_before(offer, need):
    """The least purse that a use of the offer turns into one over the need."""
    a, x, b, y = offer
    amounts = list(need)
    amounts[b] = max(0, amounts[b] - y)
    amounts[a] += x
    return tuple(amounts)
