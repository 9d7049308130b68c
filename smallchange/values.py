"""Purses and rules as objects, which never change."""

from smallchange.boards import is_offer
from smallchange.bounds import MAX_KINDS
from smallchange.checks import is_amount, is_within
from smallchange.errors import BadPurse, BadRule, NoAmount, NoKind, NoNumber, NotEnough, OtherKinds
from smallchange.folds import best_rule, sum_rule, then_rule
from smallchange.rules import canonical, first_above, rule_error, value_of
from smallchange.splits import split_rule
from smallchange.words import spaced


class Purse:
    """A purse with amounts of any size."""

    def __init__(self, amounts):
        if not isinstance(amounts, tuple) or not 1 <= len(amounts) <= MAX_KINDS:
            raise BadPurse(amounts)
        if not all([is_amount(amount) for amount in amounts]):
            raise BadPurse(amounts)
        self.amounts = amounts

    def __eq__(self, other):
        return isinstance(other, Purse) and self.amounts == other.amounts

    def __len__(self):
        return len(self.amounts)

    def __iter__(self):
        return iter(self.amounts)

    def __getitem__(self, at):
        if not is_within(at, 0, len(self.amounts) - 1):
            raise NoKind(at)
        return self.amounts[at]

    def __contains__(self, x):
        return is_offer(len(self.amounts), x) and self.amounts[x[0]] >= x[1]

    def __str__(self):
        return " ".join([str(amount) for amount in self.amounts])

    def __add__(self, other):
        check_kinds(self, other)
        return Purse(tuple([one + more for one, more in zip(self.amounts, other.amounts)]))

    def __sub__(self, other):
        check_kinds(self, other)
        for kind, amount in enumerate(self.amounts):
            if amount < other.amounts[kind]:
                raise NotEnough(kind)
        return Purse(tuple([one - less for one, less in zip(self.amounts, other.amounts)]))

    def __mul__(self, other):
        if not is_amount(other):
            raise NoNumber(other)
        return Purse(tuple([amount * other for amount in self.amounts]))

    def covers(self, other):
        """Whether there is at least as much of each kind as in the other one."""
        check_kinds(self, other)
        return all([one >= less for one, less in zip(self.amounts, other.amounts)])


def check_kinds(one, other):
    """Raises OtherKinds for two Purses with unlike numbers of kinds."""
    if len(one.amounts) != len(other.amounts):
        raise OtherKinds()


class Rule:
    """A rule, which is its value, with the items table, period and rise."""

    def __init__(self, value):
        wrong = rule_error(value)
        if wrong is not None:
            raise BadRule(wrong)
        self.value = value
        self.table, self.period, self.rise = value

    @classmethod
    def of(cls, table, period, rise):
        """The Rule with the values that table, period and rise tell."""
        return cls(canonical(table, period, rise))

    def __eq__(self, other):
        return isinstance(other, Rule) and self.value == other.value

    def __len__(self):
        return len(self.table)

    def __iter__(self):
        return iter(self.table)

    def __str__(self):
        return f"{spaced(self.table)} | {self.period} {self.rise}"

    def __call__(self, x):
        if not is_amount(x):
            raise NoAmount(x)
        return value_of(self.value, x)

    def __add__(self, other):
        return Rule(sum_rule(self.value, other.value))

    def __or__(self, other):
        return Rule(best_rule(self.value, other.value))

    def __rshift__(self, other):
        return Rule(then_rule(self.value, other.value))

    def __xor__(self, other):
        return Rule(split_rule(self.value, other.value))

    def is_below(self, other):
        """Whether the value is less than that of the other one at all amounts."""
        return first_above(one_more(self.value), other.value) is None

    def is_above(self, other):
        """Whether the value is greater than that of the other one at all amounts."""
        return first_above(one_more(other.value), self.value) is None


def one_more(rule):
    """The rule whose values are greater by 1."""
    table, period, rise = rule
    return tuple([worth + 1 for worth in table]), period, rise
