"""General purses: what lies under what, the outcomes of offers, and covers."""

from smallchange.checks import is_amount
from smallchange.rules import first_place


def lies_under(one, other):
    """Whether one, a purse or a general purse, lies under the general purse other."""
    for kind, most in enumerate(other):
        if most is not None and (one[kind] is None or one[kind] > most):
            return False
    return True


def lies_under_one(purse, generals):
    """Whether the purse lies under one of the general purses."""
    return any([lies_under(purse, general) for general in generals])


def runs_on(offer, general):
    """Whether the offer runs on the general purse."""
    amount = general[offer[0]]
    return amount is None or amount >= offer[1]


def outcome(offer, general):
    """The general purse behind the offer, which runs on this one."""
    a, x, b, y = offer
    amounts = list(general)
    if amounts[a] is not None:
        amounts[a] -= x
    if amounts[b] is not None:
        amounts[b] += y
    return tuple(amounts)


def is_general(kinds, value):
    """Whether any value is a general purse of so many kinds."""
    if not isinstance(value, tuple) or len(value) != kinds:
        return False
    return all([amount is None or is_amount(amount) for amount in value])


def is_cover(board, purse, value):
    """Whether any value is a cover of the purse."""
    kinds, offers = board
    if not isinstance(value, tuple) or not all([is_general(kinds, general) for general in value]):
        return False
    generals = list({general: True for general in value})
    scales = [scale_of(generals, kind) for kind in range(kinds)]
    shelf = Shelf(kinds)
    for general in generals:
        shelf.put(ranked(scales, general))
    if shelf.over(ranked(scales, purse)) == 0:
        return False
    for general in generals:
        for offer in offers:
            if runs_on(offer, general) and shelf.over(ranked(scales, outcome(offer, general))) == 0:
                return False
    return True


def scale_of(generals, kind):
    """The ascending list of the amounts of the kind in the general purses."""
    return sorted({general[kind] for general in generals if general[kind] is not None})


def ranked(scales, general):
    """The general purse with places on the scales in the place of amounts.

    These are small, however great the amounts are, and tell as well which of
    the general purses, from which the scales are, it lies under.
    """
    ranks = []
    for kind, amount in enumerate(general):
        scale = scales[kind]
        if amount is None:
            ranks.append(None)
        elif not scale or scale[-1] < amount:
            ranks.append(len(scale))
        else:
            ranks.append(first_place(scale, 0, amount))
    return tuple(ranks)


class Shelf:
    """General purses in a row, asked often which of them lie over another one.

    For each kind and amount, rows has the numbers of those that have at least
    as much of it, and ends the numbers of those that have None, as bits: so
    that one question looks at all of them at once.
    """

    def __init__(self, kinds):
        self.many = 0
        self.rows = [[] for _ in range(kinds)]
        self.ends = [0] * kinds

    def put(self, general):
        """Puts a general purse behind the others."""
        bit = 1 << self.many
        self.many += 1
        for kind, amount in enumerate(general):
            if amount is None:
                self.ends[kind] |= bit
                continue
            row = self.rows[kind]
            row.extend([0] * (amount + 1 - len(row)))
            for at in range(amount + 1):
                row[at] |= bit

    def over(self, general):
        """The bits of those under which the general purse lies, 0 if there are none."""
        found = (1 << self.many) - 1
        for kind, amount in enumerate(general):
            bits = self.ends[kind]
            if amount is not None and amount < len(self.rows[kind]):
                bits |= self.rows[kind][amount]
            found &= bits
            if found == 0:
                break
        return found
