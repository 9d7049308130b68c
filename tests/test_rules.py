import unittest

from plain import BIG, Unchanged, is_integer, is_shortest, odd_values, plain_value, plain_values, replaced
from plain import seeded, some_rule
from smallchange.errors import BadRule
from smallchange.rules import canonical, first_above, least_for, rule_error, sum_of, value_of

LONG = (tuple(x * x for x in range(200)), 40, 10 ** 12 - 1)


def plain_error(value):
    """The word for value by the definition, for tables of a few members."""
    if type(value) is not tuple or len(value) != 3:
        return "form"
    table, period, rise = value
    if type(table) is not tuple or not table or not all(is_integer(item) and item >= 0 for item in table):
        return "form"
    if not is_integer(period) or not is_integer(rise) or not 1 <= period <= len(table) or rise < 0:
        return "form"
    values = plain_values(value, 2 * len(table) + 2)
    if values != sorted(values):
        return "falls"
    if len(table) > 50 and len(set(table)) == 1:
        return "long" if rise == 0 else None
    return None if is_shortest(value) else "long"


class RuleErrorTest(unittest.TestCase):
    def test_example(self):
        answers = [rule_error(((0, 0, 1, 1), 4, 2)), rule_error(((0, 0), 2, 1)), rule_error(((0, 2, 1), 1, 1)),
                   rule_error((0, 1, 1))]
        self.assertEqual(answers, ['long', None, 'falls', 'form'])

    def test_rules(self):
        for value in [((0,), 1, 0), ((7,), 1, 3), LONG, ((0, 0), 2, 1), ((0, 1), 1, 0), ((0,) * 40, 40, 1),
                      (tuple(x * x for x in range(5000)), 5000, 10 ** 9)]:
            self.assertIsNone(rule_error(value))

    def test_form(self):
        wrong = [None, (), ((0,), 1), ((0,), 1, 0, 0), [(0,), 1, 0], ([0], 1, 0), ((), 0, 0), ((), 1, 0), ((0,), 0, 0),
                 ((0,), 2, 0), ((0,), -1, 0), ((0,), 1, -1), ((-1,), 1, 0), ((True,), 1, 0), ((0, True), 1, 0),
                 ((0,), True, 0), ((0,), 1, False), ((0,), "1", 0), ((0,), 1, None), (("0",), 1, 0), (((0,),), 1, 0),
                 ("0", 1, 0), ({}, 1, 0), ((0, 2, None), 1, 1)]
        for value in wrong:
            self.assertEqual(rule_error(value), "form", value)

    def test_form_is_told_ahead_of_falls(self):
        self.assertEqual(rule_error(((2, 1, -1), 1, 0)), "form")
        self.assertEqual(rule_error(((2, 1), 3, 0)), "form")

    def test_falls(self):
        # within the table, from its end to what follows, and only there
        self.assertEqual(rule_error(((1, 0), 1, 5)), "falls")
        self.assertEqual(rule_error(((0, 3), 2, 2)), "falls")
        self.assertEqual(rule_error(((0, 3), 2, 3)), None)
        self.assertEqual(rule_error(((0, 5, 9), 2, 3)), "falls")
        self.assertEqual(rule_error(((0, 5, 9), 2, 4)), None)
        self.assertEqual(rule_error(((0, 1, 1, 0), 1, 0)), "falls")

    def test_long(self):
        for value in [((0, 0), 1, 0), ((0, 0), 2, 0), ((0, 1), 1, 1), ((0, 1), 2, 2), ((0, 0, 1), 2, 1),
                      ((3, 3, 3, 3), 3, 0), (tuple(range(5000)), 1, 1), (tuple(range(5000)), 5000, 5000)]:
            self.assertEqual(rule_error(value), "long", value[1:])

    def test_periods_that_are_no_divisors(self):
        # steps 1 0 1 0 0 1 have no shorter period, 1 0 1 0 1 0 have one
        self.assertIsNone(rule_error(((0, 1, 1, 2, 2, 2), 6, 3)))
        self.assertEqual(rule_error(((0, 1, 1, 2, 2, 3), 6, 3)), "long")

    def test_against_all_shorter_tables(self):
        rng = seeded(1)
        words = {}
        for _ in range(3000):
            value = some_rule(rng, 7, 2)
            if rng.random() < 0.2:
                value = (value[0], value[1], rng.randint(0, 3))
            self.assertEqual(rule_error(value), plain_error(value), value)
            words[rule_error(value)] = True
        self.assertEqual(set(words), {None, "falls", "long"})

    def test_any_value(self):
        for value in list(odd_values()) + list(replaced(((0, 1, 3), 2, 4))) + list(replaced(((0,), 1, 0))):
            self.assertEqual(rule_error(value), plain_error(value))

    def test_long_values(self):
        self.assertIsNone(rule_error((tuple(range(4000)), 1, 2)))
        self.assertEqual(rule_error((tuple(range(4000)) + (1,), 1, 2)), "falls")
        self.assertEqual(rule_error((tuple(range(4000)) + (True,), 1, 2)), "form")


class CanonicalTest(unittest.TestCase):
    def test_example(self):
        self.assertEqual(canonical([0, 0, 1, 1], 4, 2), ((0, 0), 2, 1))

    def test_lists_and_tuples(self):
        table = [0, 0, 1, 1]
        with Unchanged(self, table):
            self.assertEqual(canonical(tuple(table), 4, 2), canonical(table, 4, 2))
        rule = canonical(table, 4, 2)
        table[0] = 9
        self.assertEqual(rule, ((0, 0), 2, 1))

    def test_same_values_and_shortest(self):
        rng = seeded(2)
        for _ in range(2000):
            told = some_rule(rng, 12, 2)
            rule = canonical(list(told[0]), told[1], told[2])
            self.assertIs(type(rule[0]), tuple)
            self.assertIsNone(rule_error(rule))
            self.assertTrue(is_shortest(rule), rule)
            self.assertEqual(plain_values(rule, 60), plain_values(told, 60))

    def test_one_tuple_whatever_it_is_made_of(self):
        rng = seeded(3)
        for _ in range(500):
            table, period, rise = some_rule(rng, 8, 3)
            times = rng.randint(1, 5)
            count = len(table) + rng.randint(0, 9) + (times - 1) * period
            values = plain_values((table, period, rise), count)
            self.assertEqual(canonical(values, period * times, rise * times), canonical(table, period, rise))

    def test_many_members(self):
        self.assertEqual(canonical(list(range(5000)), 5000, 5000), ((0,), 1, 1))
        self.assertEqual(canonical([0] * 4999 + [1], 1, 0), ((0,) * 4999 + (1,), 1, 0))
        squares = tuple(x * x for x in range(5000))
        self.assertEqual(canonical(squares, 5000, 10 ** 9), (squares, 5000, 10 ** 9))
        halves = [x // 2 for x in range(5000)]
        self.assertEqual(canonical(halves, 2500, 1250), ((0, 0), 2, 1))

    def test_one_member(self):
        self.assertEqual(canonical([5], 1, 0), ((5,), 1, 0))
        self.assertEqual(canonical((5,), 1, 10 ** 12 - 1), ((5,), 1, 10 ** 12 - 1))

    def test_wrong(self):
        cases = [([0], 0, 0, "form"), ([0], 2, 0, "form"), ([0], -1, 0, "form"), ([0], 1, -1, "form"),
                 ([-1], 1, 0, "form"), ([1, 0, -1], 1, 0, "form"), ([1, 0], 3, 0, "form"), ([0, 1, 2], 10 ** 60, 1, "form"),
                 ([1, 0], 1, 0, "falls"), ([0, 3], 2, 2, "falls"), ((0, 5, 9), 2, 3, "falls"), ([0, 1], 1, -1, "form"),
                 ([0, True], 1, 0, "form"), ([0], True, 0, "form"), ([0], 1, True, "form")]
        for table, period, rise, word in cases:
            with self.assertRaises(BadRule) as caught:
                canonical(table, period, rise)
            self.assertEqual(caught.exception.error, word, (table, period, rise))


class ValueTest(unittest.TestCase):
    def test_example(self):
        answers = [value_of(((0, 0), 2, 1), 7), least_for(((0, 0), 2, 1), 3), sum_of(((0, 0), 2, 1), 0, 5),
                   least_for(((0, 1), 1, 0), 2)]
        self.assertEqual(answers, [3, 6, 4, None])

    def test_value_by_the_definition(self):
        rng = seeded(4)
        for _ in range(300):
            rule = canonical(*some_rule(rng, 12, 9))
            for x in range(40):
                self.assertEqual(value_of(rule, x), plain_value(rule, x))

    def test_value_around_the_end_of_the_table(self):
        table, period, rise = LONG
        self.assertEqual(value_of(LONG, 199), 199 ** 2)
        self.assertEqual(value_of(LONG, 200), 160 ** 2 + rise)
        self.assertEqual(value_of(LONG, 239), 199 ** 2 + rise)
        self.assertEqual(value_of(LONG, 240), 160 ** 2 + 2 * rise)

    def test_value_of_great_amounts(self):
        self.assertEqual(value_of(((0, 0), 2, 1), BIG), BIG // 2)
        self.assertEqual(value_of(((0,), 1, 10 ** 12 - 1), BIG), BIG * (10 ** 12 - 1))
        self.assertEqual(value_of(((0, 5), 1, 0), BIG), 5)
        turns = (BIG - 160) // 40
        self.assertEqual(value_of(LONG, BIG), (BIG - 40 * turns) ** 2 + turns * LONG[2])

    def test_value_of_a_told_rule(self):
        rule = (tuple(x * x for x in range(5000)), 5000, 10 ** 9)
        self.assertEqual(value_of(rule, 4999), 4999 ** 2)
        self.assertEqual(value_of(rule, 10 ** 40 * 5000 + 7), 49 + 10 ** 49)

    def test_least_by_the_definition(self):
        rng = seeded(5)
        for _ in range(300):
            rule = canonical(*some_rule(rng, 9, 4))
            values = plain_values(rule, 400)
            for y in list(range(0, 25)) + [values[-1], values[-1] + 1]:
                found = [x for x in range(400) if values[x] >= y]
                if found:
                    self.assertEqual(least_for(rule, y), found[0], (rule, y))
                elif rule[2] == 0:
                    self.assertIsNone(least_for(rule, y))
                else:
                    self.assertGreaterEqual(least_for(rule, y), 400)

    def test_least_edges(self):
        self.assertEqual(least_for(((3,), 1, 0), 0), 0)
        self.assertEqual(least_for(((3,), 1, 0), 3), 0)
        self.assertIsNone(least_for(((3,), 1, 0), 4))
        self.assertEqual(least_for(((0, 7), 1, 0), 7), 1)
        self.assertEqual(least_for(((0, 7), 2, 8), 8), 2)
        self.assertEqual(least_for(((0, 7), 2, 8), 9), 3)
        self.assertEqual(least_for(LONG, 199 ** 2), 199)
        self.assertEqual(least_for(LONG, 199 ** 2 + 1), 200)
        self.assertIsNone(least_for(((0, 1), 1, 0), BIG))

    def test_least_of_great_values(self):
        self.assertEqual(least_for(((0, 0), 2, 1), BIG), 2 * BIG)
        self.assertEqual(least_for(((0,), 1, 7), BIG), -(-BIG // 7))
        rng = seeded(6)
        for _ in range(200):
            rule = canonical(*some_rule(rng, 12, 9))
            if rule[2] > 0:
                y = rng.randint(0, BIG)
                x = least_for(rule, y)
                self.assertGreaterEqual(value_of(rule, x), y)
                self.assertLess(value_of(rule, x - 1), y)

    def test_sum_by_the_definition(self):
        rng = seeded(7)
        for _ in range(400):
            rule = canonical(*some_rule(rng, 9, 4))
            values = plain_values(rule, 60)
            low, high = rng.randint(0, 60), rng.randint(0, 60)
            self.assertEqual(sum_of(rule, low, high), sum(values[low:high]), (rule, low, high))

    def test_sum_edges(self):
        table = LONG[0]
        self.assertEqual(sum_of(LONG, 0, 200), sum(table))
        self.assertEqual(sum_of(LONG, 199, 200), 199 ** 2)
        self.assertEqual(sum_of(LONG, 200, 201), 160 ** 2 + LONG[2])
        self.assertEqual(sum_of(LONG, 0, 0), 0)
        self.assertEqual(sum_of(LONG, 9, 9), 0)
        self.assertEqual(sum_of(LONG, 9, 8), 0)
        self.assertEqual(sum_of(LONG, BIG, 0), 0)

    def test_sum_of_great_amounts(self):
        self.assertEqual(sum_of(((0,), 1, 1), 0, BIG), BIG * (BIG - 1) // 2)
        self.assertEqual(sum_of(((3,), 1, 0), 5, BIG), 3 * (BIG - 5))
        self.assertEqual(sum_of(LONG, BIG - 1, BIG), value_of(LONG, BIG - 1))
        self.assertEqual(sum_of(LONG, BIG - 90, BIG), sum([value_of(LONG, BIG - at) for at in range(1, 91)]))

    def test_values_are_integers(self):
        for answer in [value_of(LONG, 3), least_for(LONG, 3), sum_of(LONG, 0, 3), sum_of(LONG, 3, 0)]:
            self.assertIs(type(answer), int)


class FirstAboveTest(unittest.TestCase):
    def test_example(self):
        answers = [first_above(((0, 0), 2, 1), ((0, 0, 0), 3, 1)), first_above(((0, 0, 0), 3, 1), ((0, 0), 2, 1))]
        self.assertEqual(answers, [2, None])

    def test_by_the_definition(self):
        rng = seeded(8)
        for _ in range(1500):
            one, other = canonical(*some_rule(rng, 9, 4)), canonical(*some_rule(rng, 9, 4))
            left, right = plain_values(one, 900), plain_values(other, 900)
            found = [x for x in range(900) if left[x] > right[x]]
            self.assertEqual(first_above(one, other), found[0] if found else None, (one, other))

    def test_alike(self):
        for rule in [((0,), 1, 0), LONG, ((0, 0), 2, 1)]:
            self.assertIsNone(first_above(rule, rule))

    def test_far_off(self):
        one = ((0,), 1, 10 ** 6)
        other = (tuple(10 ** 11 + 10 ** 6 * x for x in range(40)), 40, 40 * 10 ** 6 - 1)
        self.assertIsNone(rule_error(other))
        x = first_above(one, other)
        self.assertEqual(x, 40 * (10 ** 11 + 1))
        self.assertEqual(value_of(one, x) - value_of(other, x), 1)
        self.assertEqual(value_of(one, x - 1) - value_of(other, x - 1), 0)
        self.assertEqual(first_above(other, one), 0)

    def test_far_off_by_unlike_periods(self):
        one = (tuple(range(39)), 39, 39 * 10 ** 9 + 1)
        other = (tuple(10 ** 12 - 1 for x in range(40)), 40, 40 * 10 ** 9 + 1)
        x = first_above(one, other)
        self.assertGreater(x, 10 ** 6)
        self.assertGreater(value_of(one, x), value_of(other, x))
        self.assertTrue(all(value_of(one, at) <= value_of(other, at) for at in range(x - 4000, x)))

    def test_only_once(self):
        self.assertEqual(first_above(((0, 0, 5), 1, 0), ((0, 0, 4), 1, 9)), 2)
        self.assertEqual(first_above(((0, 0, 0, 9, 9), 1, 1), ((0, 4, 8), 1, 4)), None)
        self.assertEqual(first_above(((0, 0, 0, 0, 17, 17), 1, 1), ((0, 4, 8), 1, 4)), 4)


if __name__ == "__main__":
    unittest.main()
