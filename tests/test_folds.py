import unittest
from unittest import mock

from plain import BIG, Unchanged, plain_values, seeded, some_rule
from smallchange.errors import NoRise, TooLong
from smallchange.folds import best_rule, inverse_rule, sum_rule, then_rule
from smallchange.rules import canonical, least_for, rule_error, value_of
from smallchange.splits import split_rule

LONG = (tuple(x * x for x in range(200)), 40, 10 ** 12 - 1)
SLOW = ((0,) * 40, 40, 1)


class FoldTest(unittest.TestCase):
    def too_long(self, number, call, *rules):
        with self.assertRaises(TooLong) as caught:
            call(*rules)
        self.assertEqual(caught.exception.number, number)
        self.assertIs(type(caught.exception.number), int)

    def holds(self, rule, values):
        self.assertIsNone(rule_error(rule))
        self.assertEqual(plain_values(rule, len(values)), values)


class ExamplesTest(FoldTest):
    def test_three(self):
        self.assertEqual(sum_rule(((0, 0), 2, 1), ((0, 1), 2, 1)), ((0,), 1, 1))
        self.assertEqual(best_rule(((0, 0, 0), 1, 1), ((0, 0), 2, 1)), ((0, 0, 1, 1), 1, 1))
        self.assertEqual(then_rule(((0, 0), 2, 1), ((0, 0, 0), 3, 1)), ((0, 0, 0, 0, 0, 0), 6, 1))

    def test_inverse(self):
        self.assertEqual(inverse_rule(((0, 0), 2, 1)), ((0,), 1, 2))
        self.too_long(1000000, inverse_rule, ((0,), 1, 10 ** 6))


class PlainCountTest(FoldTest):
    def test_sum_best_then(self):
        rng = seeded(11)
        for _ in range(1200):
            one, other = canonical(*some_rule(rng)), canonical(*some_rule(rng))
            left, right = plain_values(one, 150), plain_values(other, 150)
            with Unchanged(self, one, other):
                self.holds(sum_rule(one, other), [left[x] + right[x] for x in range(150)])
                self.holds(best_rule(one, other), [max(left[x], right[x]) for x in range(150)])
                beyond = plain_values(other, left[-1] + 1)
                self.holds(then_rule(one, other), [beyond[left[x]] for x in range(150)])

    def test_inverse(self):
        rng = seeded(12)
        for _ in range(600):
            rule = canonical(*some_rule(rng))
            if rule[2] == 0:
                self.assertRaises(NoRise, inverse_rule, rule)
                continue
            values = plain_values(rule, 60 * len(rule[0]) + 60)
            inverse = inverse_rule(rule)
            self.holds(inverse, [min([x for x in range(len(values)) if values[x] >= y]) for y in range(60)])

    def test_both_orders_tell_one_tuple(self):
        rng = seeded(13)
        for _ in range(300):
            one, other = canonical(*some_rule(rng)), canonical(*some_rule(rng))
            self.assertEqual(sum_rule(one, other), sum_rule(other, one))
            self.assertEqual(best_rule(one, other), best_rule(other, one))

    def test_inverse_asks_for_what_the_rule_gives(self):
        rng = seeded(14)
        for _ in range(300):
            rule = canonical(*some_rule(rng))
            if rule[2] > 0:
                inverse = inverse_rule(rule)
                for _ in range(20):
                    x, y = rng.randint(0, 60), rng.randint(0, 60)
                    self.assertEqual(value_of(inverse, y) <= x, value_of(rule, x) >= y)


class EdgesTest(FoldTest):
    def test_unlike_periods(self):
        one = (tuple(x // 3 for x in range(40)), 40, 13)
        other = (tuple(x // 5 for x in range(39)), 39, 8)
        for call, fold in [(sum_rule, lambda a, b: a + b), (best_rule, max)]:
            rule = call(one, other)
            left, right = plain_values(one, 5000), plain_values(other, 5000)
            self.holds(rule, [fold(left[x], right[x]) for x in range(5000)])
        self.assertEqual(len(sum_rule(one, other)[0]), 1560)

    def test_great_amounts(self):
        rng = seeded(15)
        for _ in range(200):
            one, other = canonical(*some_rule(rng)), canonical(*some_rule(rng))
            x = rng.randint(0, BIG)
            self.assertEqual(value_of(sum_rule(one, other), x), value_of(one, x) + value_of(other, x))
            self.assertEqual(value_of(best_rule(one, other), x), max(value_of(one, x), value_of(other, x)))
            self.assertEqual(value_of(then_rule(one, other), x), value_of(other, value_of(one, x)))
            if one[2] > 0:
                self.assertEqual(value_of(inverse_rule(one), x), least_for(one, x))

    def test_long_tables(self):
        self.holds(sum_rule(LONG, LONG), [2 * y for y in plain_values(LONG, 400)])
        self.assertEqual(best_rule(LONG, LONG), LONG)
        self.assertEqual(best_rule(LONG, ((0,), 1, 0)), LONG)
        self.assertEqual(then_rule(((0,), 1, 1), LONG), LONG)
        self.assertEqual(then_rule(LONG, ((0,), 1, 1)), LONG)
        self.assertEqual(sum_rule(LONG, ((0,), 1, 0)), LONG)

    def test_rise_of_zero(self):
        flat = ((0, 3), 1, 0)
        self.assertEqual(sum_rule(flat, flat), ((0, 6), 1, 0))
        self.assertEqual(best_rule(flat, ((2,), 1, 0)), ((2, 3), 1, 0))
        self.assertEqual(then_rule(flat, LONG), ((0, 9), 1, 0))
        self.assertEqual(then_rule(LONG, flat), ((0, 3), 1, 0))
        self.assertRaises(NoRise, inverse_rule, flat)
        self.assertRaises(NoRise, inverse_rule, ((10 ** 12 - 1,), 1, 0))


class TooLongTest(FoldTest):
    def test_best_around_the_bound(self):
        line = ((0,), 1, 1)
        rule = best_rule(((4999,), 1, 0), line)
        self.assertEqual(rule, ((4999,) * 5000, 1, 1))
        self.assertIsNone(rule_error(rule))
        self.too_long(5001, best_rule, ((5000,), 1, 0), line)
        self.too_long(5001, best_rule, line, ((5000,), 1, 0))

    def test_best_far_off(self):
        self.too_long(10 ** 12, best_rule, ((10 ** 12 - 1,), 1, 0), ((0,), 1, 1))
        one = ((0,), 1, 10 ** 6)
        other = (tuple(10 ** 11 + 10 ** 6 * x for x in range(40)), 40, 40 * 10 ** 6 - 1)
        self.too_long(4 * 10 ** 12 + 1, best_rule, one, other)
        # the rises differ by one in 1560 amounts
        one = (tuple(range(39)), 39, 39 * 10 ** 9)
        other = (tuple(10 ** 12 - 1 for x in range(40)), 40, 40 * 10 ** 9 - 1)
        with self.assertRaises(TooLong) as caught:
            best_rule(one, other)
        begin = caught.exception.number - 39
        values = [max(value_of(one, x), value_of(other, x)) for x in range(begin - 1, begin + 4000)]
        self.assertNotEqual(values[39], values[0] + one[2])
        self.assertEqual(values[40:], [y + one[2] for y in values[1:-39]])

    def test_best_is_above_only_now_and_then(self):
        # other is above one only where its steps have just come
        one = ((0,), 1, 7)
        other = ((290, 310, 310), 3, 20)
        rule = best_rule(one, other)
        self.assertIsNone(rule_error(rule))
        left, right = plain_values(one, 3000), plain_values(other, 3000)
        self.holds(rule, [max(left[x], right[x]) for x in range(3000)])
        last = max([x for x in range(3000) if right[x] > left[x]])
        self.assertEqual(len(rule[0]), last + 2)

    def test_then(self):
        squares = tuple(x * x for x in range(200))
        rule = then_rule(((0,) * 25, 25, 1), (squares, 40, 10 ** 12 - 1))
        self.assertEqual(len(rule[0]), 5000)
        values = plain_values((squares, 40, 10 ** 12 - 1), 300)
        self.holds(rule, [values[x // 25] for x in range(7500)])
        # one amount later: the first rule stays at 0 for one amount more
        self.too_long(5001, then_rule, ((0,) * 26, 25, 1), (squares, 40, 10 ** 12 - 1))
        self.too_long(8000, then_rule, SLOW, LONG)

    def test_inverse_around_the_bound(self):
        rule = inverse_rule(((0,), 1, 5000))
        self.assertEqual(rule, ((0,) + (1,) * 4999, 5000, 1))
        self.assertIsNone(rule_error(rule))
        self.too_long(5001, inverse_rule, ((0,), 1, 5001))
        self.too_long(10 ** 12 - 1, inverse_rule, ((0,), 1, 10 ** 12 - 1))

    def test_inverse_that_begins_late(self):
        self.assertEqual(inverse_rule(((4998,), 1, 1)), ((0,) * 4999, 1, 1))
        self.too_long(5001, inverse_rule, ((5000,), 1, 1))
        # behind the last value before the rule repeats, or behind that of its end a turn earlier
        self.too_long(159 ** 2 + 1 + LONG[2], inverse_rule, LONG)
        late = ((0, 10 ** 11, 3 * 10 ** 11), 2, 2 * 10 ** 11)
        self.assertIsNone(rule_error(late))
        self.too_long(3 * 10 ** 11 + 1, inverse_rule, late)

    def test_inverse_numbers_by_the_definition(self):
        for rule in [((0, 900, 2700), 2, 1800), ((0, 0, 900), 1, 1500), ((100, 100, 7100), 2, 7050)]:
            self.assertIsNone(rule_error(rule))
            values = [least_for(rule, y) for y in range(40000)]
            turn = rule[2]
            begin = max([y for y in range(30000) if values[y + turn] != values[y] + rule[1]], default=-1) + 1
            if begin + turn > 5000:
                self.too_long(begin + turn, inverse_rule, rule)
            else:
                self.assertEqual(len(inverse_rule(rule)[0]), begin + turn)

    def test_numbers_are_those_of_the_tables(self):
        # with a lesser bound the number is told, whatever it is
        rng = seeded(16)
        for _ in range(400):
            one, other = canonical(*some_rule(rng)), canonical(*some_rule(rng))
            calls = [(call, one, other) for call in (sum_rule, best_rule, then_rule, split_rule)]
            if one[2] > 0:
                calls.append((inverse_rule, one))
            for call, *rules in calls:
                count = len(call(*rules)[0])
                with mock.patch("smallchange.rules.MAX_TOLD", count - 1):
                    self.too_long(count, call, *rules)
                with mock.patch("smallchange.rules.MAX_TOLD", count):
                    self.assertEqual(len(call(*rules)[0]), count)

    def test_no_rise_comes_first(self):
        self.assertRaises(NoRise, inverse_rule, (tuple(range(200)), 1, 0))


if __name__ == "__main__":
    unittest.main()
