import operator
import unittest
from math import lcm

from plain import BIG, Unchanged, odd_values, plain_value, replaced, seeded, some_rule
from plain_boards import BOARDS, some_board, some_way, under, uses_of
from smallchange.errors import BadPurse, BadRule, NoAmount, NoKind, NoNumber, NotEnough, OtherKinds, Stuck, TooLong
from smallchange.folds import best_rule, sum_rule, then_rule
from smallchange.promises import Reserve
from smallchange.rules import canonical, rule_error, value_of
from smallchange.splits import split_rule
from smallchange.tills import Till
from smallchange.values import Purse, Rule
from smallchange.ways import change_of, need_of, walk

ODD_OBJECTS = [Reserve(1, 20), Till((1, ()), (3,)), Purse((0, 1)), Rule(((0,), 1, 0))]


def some_amounts(rng, kinds, most=12):
    return tuple(rng.choice([0, rng.randint(0, most), BIG]) for _ in range(kinds))


class PurseTest(unittest.TestCase):
    def test_example(self):
        one, other = Purse((5, 0, 2)), Purse((1, 0, 3))
        answers = [(one + other).amounts, one.covers(other), one[2], str(one * 2), (0, 5, 1, 7) in one,
                   (0, 6, 1, 7) in one, list(one)]
        self.assertEqual(answers, [(6, 0, 5), False, 2, '10 0 4', True, False, [5, 0, 2]])
        with self.assertRaises(NotEnough) as caught:
            one - other
        self.assertEqual(caught.exception.kind, 2)

    def test_amounts_of_any_size(self):
        for amounts in [(0,), (7,), (0, 0, 0, 0), (1, 2, 3, 4), (10 ** 6 + 1, BIG), (BIG, 0, BIG)]:
            one = Purse(amounts)
            self.assertIs(one.amounts, amounts)
            self.assertEqual((len(one), list(one), tuple(one)), (len(amounts), list(amounts), amounts))
            self.assertEqual([one[kind] for kind in range(len(amounts))], list(amounts))
            self.assertEqual(str(one), " ".join(str(amount) for amount in amounts))

    def test_any_value(self):
        for value in list(replaced((3, 4))) + ODD_OBJECTS + [(1,) * 5, (0, -1), (True,), (False, 1), (1, None), [1, 2]]:
            good = (type(value) is tuple and 1 <= len(value) <= 4
                    and all(type(amount) is int and amount >= 0 for amount in value))
            if good:
                self.assertIs(Purse(value).amounts, value)
                continue
            with self.assertRaises(BadPurse) as caught:
                Purse(value)
            self.assertIs(caught.exception.value, value)

    def test_no_kind(self):
        for amounts in [(5,), (5, 6, 7, 8)]:
            one = Purse(amounts)
            for kind in odd_values() + ODD_OBJECTS + [len(amounts), -1, -len(amounts), True, False, "0", 0.0, (0,), None]:
                with self.assertRaises(NoKind) as caught:
                    one[kind]
                self.assertIs(caught.exception.kind, kind)

    def test_equal_purses(self):
        self.assertTrue(Purse((1, 2)) == Purse((1, 2)))
        self.assertFalse(Purse((1, 2)) != Purse((1, 2)))
        for other in [Purse((2, 1)), Purse((1, 2, 0)), Purse((1,)), (1, 2), [1, 2], "1 2", None, Rule(((1, 2), 1, 0)), 3]:
            self.assertFalse(Purse((1, 2)) == other)
            self.assertTrue(Purse((1, 2)) != other)
            self.assertFalse(other == Purse((1, 2)))
        self.assertFalse(Purse((1,)) == True)

    def test_sums_and_differences(self):
        rng = seeded(121)
        found = {"enough": 0, "less": 0}
        for _ in range(400):
            kinds = rng.randint(1, 4)
            one, other = some_amounts(rng, kinds), some_amounts(rng, kinds)
            left, right = Purse(one), Purse(other)
            self.assertEqual((left + right).amounts, tuple(x + y for x, y in zip(one, other)))
            self.assertIsInstance(left + right, Purse)
            self.assertIs(left.covers(right), under(other, one))
            number = rng.choice([0, 1, 3, BIG])
            self.assertEqual((left * number).amounts, tuple(amount * number for amount in one))
            short = [kind for kind in range(kinds) if one[kind] < other[kind]]
            found["less" if short else "enough"] += 1
            if short:
                with self.assertRaises(NotEnough) as caught:
                    left - right
                self.assertEqual(caught.exception.kind, short[0])
            else:
                self.assertEqual((left - right).amounts, tuple(x - y for x, y in zip(one, other)))
            self.assertEqual((left + right) - right, left)
            self.assertEqual((left.amounts, right.amounts), (one, other))
        self.assertGreater(min(found.values()), 80)
        self.assertEqual([Purse((1, 0)).covers(Purse((0, 1))), Purse((0, 1)).covers(Purse((1, 0)))], [False, False])

    def test_other_kinds(self):
        for one, other in [((1,), (1, 2)), ((1, 2, 3), (9, 9)), ((0, 0, 0, 0), (5, 5, 5))]:
            for call in (operator.add, operator.sub, lambda left, right: left.covers(right)):
                for pair in [(one, other), (other, one)]:
                    with self.assertRaises(OtherKinds):
                        call(Purse(pair[0]), Purse(pair[1]))

    def test_no_number(self):
        for value in odd_values() + ODD_OBJECTS + [True, False, -1, -BIG, "2", (2,), None]:
            if type(value) is int and value >= 0:
                continue
            with self.assertRaises(NoNumber) as caught:
                Purse((1, 2)) * value
            self.assertIs(caught.exception.value, value)

    def test_offers_in_a_purse(self):
        one = Purse((5, 0, 30))
        for offer in [(0, 5, 1, 7), (0, 1, 2, 0), (2, 30, 0, 30), (2, 1, 1, 0)]:
            self.assertIs(offer in one, True)
        for value in list(replaced((0, 5, 1, 7))) + ODD_OBJECTS + [
                (0, 6, 1, 7), (1, 1, 0, 7), (0, 5, 3, 7), (3, 1, 0, 1), (0, 5, 0, 7), (2, 31, 0, 1), (0, 0, 1, 1),
                (0, 5, 1, 31), (0, 5, 1, -1), (False, 5, 1, 7), (0, 5, True, 7), [0, 5, 1, 7], (0, True, 1, 1), 5, 0, 30]:
            expected = (type(value) is tuple and len(value) == 4 and all(type(item) is int for item in value)
                        and value[0] != value[2] and 0 <= value[0] <= 2 and 0 <= value[2] <= 2
                        and 1 <= value[1] <= 30 and 0 <= value[3] <= 30 and one.amounts[value[0]] >= value[1])
            self.assertIs(value in one, expected, value)
        self.assertIs((0, 1, 1, 1) in Purse((5,)), False)

    def test_walks_agree(self):
        rng = seeded(122)
        found = {True: 0, False: 0}
        for board in list(BOARDS) + [some_board(rng, rng.randint(2, 4), 6, 30) for _ in range(300)]:
            way = some_way(rng, board, 4, 3)
            need, change = Purse(need_of(board, way)), change_of(board, way)
            amounts = tuple(amount + rng.randint(-1, 4) if amount else rng.randint(0, 4) for amount in need.amounts)
            purse = at = Purse(amounts)
            walked = True
            for _, index in uses_of(way):
                a, x, b, y = offer = board[1][index]
                if offer not in at:
                    walked = False
                    break
                taken = Purse(tuple(x if kind == a else 0 for kind in range(board[0])))
                given = Purse(tuple(y if kind == b else 0 for kind in range(board[0])))
                at = at - taken + given
            found[walked] += 1
            self.assertIs(purse.covers(need), walked)
            if walked:
                self.assertEqual(Purse(walk(board, amounts, way)), at)
                self.assertEqual(at.amounts, tuple(x + y for x, y in zip(amounts, change)))
            else:
                with self.assertRaises(Stuck):
                    walk(board, amounts, way)
        self.assertGreater(min(found.values()), 40)


def plain_below(one, other):
    """Whether one is less than other at all amounts, by a look at all places of both periods."""
    # where one rises more for the same amount it is greater far off
    if one[2] * other[1] > other[2] * one[1]:
        return False
    count = max(len(one[0]), len(other[0])) + lcm(one[1], other[1])
    return all(plain_value(one, x) < plain_value(other, x) for x in range(count))


class RuleTest(unittest.TestCase):
    def test_example(self):
        one = Rule.of((0, 0, 1, 1, 2, 2), 2, 1)
        answers = [one.value, one(9), str(one + one), one.is_below(one), one.is_above(one), list(one)]
        self.assertEqual(answers, [((0, 0), 2, 1), 4, '0 0 | 2 2', False, False, [0, 0]])
        with self.assertRaises(NoAmount) as caught:
            one(-1)
        self.assertEqual(caught.exception.value, -1)

    def test_attributes(self):
        for value in [((0,), 1, 0), ((0, 0), 2, 1), ((3, 5, 9), 1, 7), ((0, 10 ** 12), 1, 0)]:
            one = Rule(value)
            self.assertIs(one.value, value)
            self.assertIs(one.table, value[0])
            self.assertEqual((one.period, one.rise), value[1:])
            self.assertEqual((len(one), list(one)), (len(value[0]), list(value[0])))
            self.assertEqual(str(one), " ".join(map(str, value[0])) + f" | {value[1]} {value[2]}")

    def test_any_value(self):
        for value in list(replaced(((0, 0), 2, 1))) + ODD_OBJECTS + [((0, 0, 1, 1), 4, 2), ((1, 0), 1, 0)]:
            wrong = rule_error(value)
            if wrong is None:
                self.assertIs(Rule(value).value, value)
                continue
            with self.assertRaises(BadRule) as caught:
                Rule(value)
            self.assertEqual(caught.exception.error, wrong)
        for value, wrong in [(((0, 0, 1, 1), 4, 2), "long"), (((1, 0), 1, 0), "falls"), ([(0,), 1, 0], "form")]:
            with self.assertRaises(BadRule) as caught:
                Rule(value)
            self.assertEqual(caught.exception.error, wrong)

    def test_of(self):
        rng = seeded(123)
        for _ in range(150):
            told = some_rule(rng)
            for table in (told[0], list(told[0])):
                with Unchanged(self, table):
                    one = Rule.of(table, told[1], told[2])
                self.assertIsInstance(one, Rule)
                self.assertEqual(one.value, canonical(*told))
        table = [0, 0, 1]
        one = Rule.of(table, 1, 1)
        table[0] = 7
        self.assertEqual(one.value, ((0, 0), 1, 1))
        for table, period, rise, wrong in [((0, 1), 3, 0, "form"), ((1, 0), 1, 0, "falls"), ([0, 5], 2, 1, "falls"),
                                           ((0, -1), 1, 1, "form")]:
            with self.assertRaises(BadRule) as caught:
                Rule.of(table, period, rise)
            self.assertEqual(caught.exception.error, wrong)

    def test_calls(self):
        one = Rule(((0, 2, 2), 2, 5))
        self.assertEqual([one(x) for x in range(20)], [plain_value(one.value, x) for x in range(20)])
        self.assertEqual(one(BIG), value_of(one.value, BIG))
        for x in odd_values() + ODD_OBJECTS + [True, False, -1, "1", (1,), [1], None]:
            if type(x) is int and x >= 0:
                continue
            with self.assertRaises(NoAmount) as caught:
                one(x)
            self.assertIs(caught.exception.value, x)

    def test_equal_rules(self):
        self.assertTrue(Rule(((0, 0), 2, 1)) == Rule.of((0, 0, 1, 1), 4, 2))
        for other in [((0, 0), 2, 1), Rule(((0,), 1, 1)), Rule(((0, 0, 0), 3, 1)), Purse((0, 0)), [0, 0], None, "0 0 | 2 1"]:
            self.assertFalse(Rule(((0, 0), 2, 1)) == other)
            self.assertTrue(Rule(((0, 0), 2, 1)) != other)

    def test_joined_rules(self):
        rng = seeded(124)
        calls = [(operator.add, sum_rule), (operator.or_, best_rule), (operator.rshift, then_rule),
                 (operator.xor, split_rule)]
        for _ in range(200):
            one, other = canonical(*some_rule(rng)), canonical(*some_rule(rng))
            for sign, function in calls:
                left, right = Rule(one), Rule(other)
                joined = sign(left, right)
                self.assertIsInstance(joined, Rule)
                self.assertEqual(joined.value, function(one, other))
                self.assertEqual((left.value, right.value), (one, other))
        # first one, then the other
        one, other = Rule(((0, 0), 2, 1)), Rule(((0, 3), 1, 5))
        self.assertEqual([(one >> other)(x) for x in range(9)], [other(one(x)) for x in range(9)])
        self.assertNotEqual(one >> other, other >> one)

    def test_too_long(self):
        far = 10 ** 12 - 1
        with self.assertRaises(TooLong) as caught:
            Rule(((far,), 1, 0)) | Rule(((0,), 1, 1))
        with self.assertRaises(TooLong) as expected:
            best_rule(((far,), 1, 0), ((0,), 1, 1))
        self.assertEqual(caught.exception.number, expected.exception.number)
        one, other = Rule.of((0,) * 199 + (1,), 37, 7), Rule.of((0,) * 199 + (1,), 40, 7)
        self.assertEqual(len(one + other), 163 + 37 * 40)
        slow, late = Rule(((0,) * 40, 40, 1)), Rule((tuple([x * x for x in range(180)]), 1, 400))
        with self.assertRaises(TooLong) as caught:
            slow >> late
        self.assertEqual(caught.exception.number, 40 * 180)
        self.assertEqual((late >> slow).value, then_rule(late.value, slow.value))

    def test_below_and_above(self):
        rng = seeded(125)
        found = {True: 0, False: 0}
        for _ in range(1500):
            one, other = canonical(*some_rule(rng, 6, 3)), canonical(*some_rule(rng, 6, 3))
            if rng.random() < 0.6:
                more = rng.choice([((1,), 1, 0), ((3,), 1, 0), ((0, 1), 1, 0), ((1, 1, 1, 1), 4, 1), ((0,), 1, 1)])
                other = sum_rule(one, more)
            left, right = Rule(one), Rule(other)
            below = plain_below(one, other)
            found[below] += 1
            self.assertIs(left.is_below(right), below, (one, other))
            self.assertIs(right.is_above(left), below)
            self.assertIs(left.is_above(right), plain_below(other, one))
        self.assertGreater(min(found.values()), 300)

    def test_rules_that_cross_far_off(self):
        high = Rule(((10 ** 12 - 1,), 1, 10))
        for rise, below in [(9, True), (10, True), (11, False), (10 ** 12 - 1, False)]:
            low = Rule(((0,), 1, rise))
            self.assertEqual((low.is_below(high), high.is_above(low), low.is_above(high)), (below, below, False))
        # once in 39 * 40 amounts both are alike, at first at 1559
        one = Rule.of([x + (x == 38) for x in range(39)], 39, 39)
        other = Rule.of([x + 2 - (x == 39) for x in range(40)], 40, 40)
        self.assertEqual([x for x in range(3000) if one(x) >= other(x)], [1559])
        self.assertEqual((one.is_below(other), other.is_above(one), other.is_below(one)), (False, False, False))
        less = Rule.of([x for x in range(39)], 39, 39)
        self.assertEqual((less.is_below(other), other.is_above(less), less.is_above(other)), (True, True, False))
        self.assertIs(Rule(((0,), 1, 1)).is_below(Rule(((1,), 1, 1))), True)
        self.assertIs(Rule(((0,), 1, 1)).is_below(Rule(((0, 2), 1, 1))), False)


if __name__ == "__main__":
    unittest.main()
