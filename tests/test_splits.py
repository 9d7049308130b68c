import unittest
from unittest import mock

from plain import BIG, Unchanged, plain_split, plain_star, plain_values, seeded, some_rule
from smallchange.errors import NoStart, TooLong
from smallchange.rules import canonical, rule_error, value_of
from smallchange.splits import split_rule, star_parts, star_rule

SAMPLE = ((0, 0, 0, 2, 2, 4), 1, 0)
LONG = (tuple(x * x for x in range(200)), 40, 10 ** 12 - 1)


def early_loss(number):
    """A rule whose parts of 1 lose 1, all others number: the star has number + 1 members."""
    return (0, number - 1, number), 1, number


def some_losing_rule(rng):
    """A rule without a best part, where small parts lose little."""
    count = rng.randint(2, 12)
    period = rng.randint(1, min(4, count - 1))
    rise = rng.randint(10, 60)
    table = [0]
    for x in range(1, count):
        loss = rng.randint(1, 5) if x < count - period else rng.randint(1, 90)
        table.append(max(table[-1], (rise * x - loss) // period))
    if table[-1] > table[count - period] + rise:
        return some_losing_rule(rng)
    return canonical(table, period, rise)


class SplitCase(unittest.TestCase):
    def too_long(self, number, call, *arguments):
        with self.assertRaises(TooLong) as caught:
            call(*arguments)
        self.assertEqual(caught.exception.number, number)
        self.assertIs(type(caught.exception.number), int)

    def holds(self, rule, values):
        self.assertIsNone(rule_error(rule))
        self.assertEqual(plain_values(rule, len(values)), values)

    def parts_hold(self, rule, star, x):
        parts = star_parts(rule, x)
        self.assertIs(type(parts), tuple)
        self.assertEqual(sorted({part for part, times in parts}), [part for part, times in parts])
        self.assertTrue(all(type(pair) is tuple and pair[0] >= 1 and pair[1] >= 1 for pair in parts))
        self.assertEqual(sum([part * times for part, times in parts]), x)
        self.assertEqual(sum([value_of(rule, part) * times for part, times in parts]), value_of(star, x))
        self.assertLessEqual(len(parts), 400)


class SplitTest(SplitCase):
    def test_example(self):
        self.assertEqual(split_rule(((0, 0, 0, 2), 1, 0), ((0, 0), 2, 1)), ((0, 0, 1, 2), 2, 1))

    def test_plain_count(self):
        rng = seeded(21)
        for _ in range(700):
            one, other = canonical(*some_rule(rng)), canonical(*some_rule(rng))
            values = plain_split(plain_values(one, 90), plain_values(other, 90))
            with Unchanged(self, one, other):
                rule = split_rule(one, other)
            self.holds(rule, values)
            self.assertEqual(split_rule(other, one), rule)

    def test_values_above_zero_at_zero(self):
        self.assertEqual(split_rule(((3,), 1, 1), ((4,), 1, 1)), ((7,), 1, 1))
        self.assertEqual(split_rule(((3,), 1, 2), ((4,), 1, 1)), ((7,), 1, 2))
        self.assertEqual(split_rule(((3,), 1, 0), ((4,), 1, 0)), ((7,), 1, 0))

    def test_zero_is_neutral(self):
        zero = ((0,), 1, 0)
        for rule in [zero, SAMPLE, LONG, ((0, 0), 2, 1), ((5, 9), 1, 0)]:
            self.assertEqual(split_rule(rule, zero), rule)
            self.assertEqual(split_rule(zero, rule), rule)

    def test_alike_rises(self):
        one = canonical([x // 7 * 5 for x in range(40)], 7, 5)
        other = canonical([max(0, x // 14 * 10 - 3) for x in range(60)], 14, 10)
        values = plain_split(plain_values(one, 400), plain_values(other, 400))
        self.holds(split_rule(one, other), values)

    def test_alike_rises_of_unlike_periods(self):
        one = (tuple(x // 3 for x in range(40)), 40, 13)
        other = (tuple(x // 4 for x in range(39)), 39, 12)
        values = plain_split(plain_values(one, 1700), plain_values(other, 1700))
        self.holds(split_rule(one, other), values)

    def test_long_tables(self):
        rng = seeded(22)
        for _ in range(4):
            one = canonical(sorted(rng.randint(0, 10 ** 11) for _ in range(200)), 40, 10 ** 12 - 1)
            other = canonical(sorted(rng.randint(0, 10 ** 11) for _ in range(200)), 39, 10 ** 12 - 1)
            rule = split_rule(one, other)
            self.holds(rule, plain_split(plain_values(one, 500), plain_values(other, 500)))

    def test_great_amounts(self):
        # all but a bounded part is for one of both rules
        rng = seeded(23)
        for _ in range(60):
            one, other = canonical(*some_rule(rng)), canonical(*some_rule(rng))
            x = rng.randint(10 ** 30, BIG)
            found = max([value_of(one, x - at) + value_of(other, at) for at in range(150)]
                        + [value_of(other, x - at) + value_of(one, at) for at in range(150)])
            self.assertEqual(value_of(split_rule(one, other), x), found)

    def test_too_long(self):
        # one part of 1 at once, or a late rise that is greater by one
        for rise in (4998, 4999, 10 ** 9):
            one, other = ((0, 5000 + rise, 5000 + rise), 1, rise), ((0,), 1, rise - 1)
            self.assertIsNone(rule_error(one))
            if rise == 4998:
                rule = split_rule(one, other)
                self.assertEqual(len(rule[0]), 5000)
                left, right = plain_values(one, 6000), plain_values(other, 6000)
                self.holds(rule, [max([left[at] + right[x - at] for at in (0, 1, x) if at <= x]) for x in range(6000)])
            else:
                self.too_long(rise + 2, split_rule, one, other)
                self.too_long(rise + 2, split_rule, other, one)

    def test_too_long_with_many_digits(self):
        one = ((0,) + (10 ** 12 - 1,) * 199, 1, 10 ** 9)
        other = ((0,), 1, 10 ** 9 - 1)
        self.too_long(198 * 10 ** 9 + 2, split_rule, one, other)


class StarTest(SplitCase):
    def test_examples(self):
        self.assertEqual(star_rule(SAMPLE), ((0, 0, 0, 2, 2), 5, 4))
        self.assertEqual(star_parts(SAMPLE, 8), ((3, 1), (5, 1)))
        self.assertEqual(star_parts(SAMPLE, 0), ())

    def test_plain_count(self):
        rng = seeded(24)
        for number in range(900):
            rule = some_losing_rule(rng) if number % 3 == 0 else canonical(*some_rule(rng, 12, 9, 0))
            with Unchanged(self, rule):
                star = star_rule(rule)
            self.holds(star, plain_star(plain_values(rule, 120)))
            for x in [0, 1, 2, rng.randint(0, 30), rng.randint(0, 300), rng.randint(0, BIG), len(star[0])]:
                self.parts_hold(rule, star, x)

    def test_late_but_not_too_late(self):
        rng = seeded(25)
        longest = 0
        for _ in range(40):
            table = [0]
            for x in range(1, 25):
                table.append(max(table[-1], 40 * x - rng.randint(1, 60)))
            rule = canonical(table, 1, rng.randint(table[-1] - table[-2], 39) if table[-1] - table[-2] < 39 else 10 ** 3)
            star = star_rule(rule)
            longest = max(longest, len(star[0]))
            self.holds(star, plain_star(plain_values(rule, 700)))
        self.assertGreater(longest, 150)

    def test_best_part_behind_the_table(self):
        # one of 4 alone is the best part, a whole period
        rule = ((0, 0, 0, 0), 4, 3)
        self.assertEqual(star_rule(rule), rule)
        self.assertEqual(star_parts(rule, 11), star_parts(rule, 11))
        for x in range(30):
            self.parts_hold(rule, rule, x)

    def test_several_best_parts(self):
        rule = canonical([0, 0, 0, 0, 4, 4, 6], 1, 0)
        star = star_rule(rule)
        self.assertEqual(star[1], 2)
        self.holds(star, plain_star(plain_values(rule, 100)))

    def test_no_best_part(self):
        rule = ((0, 0), 1, 1)
        self.assertEqual(star_rule(rule), rule)
        self.parts_hold(rule, rule, BIG)
        self.assertEqual(star_parts(rule, BIG), ((BIG, 1),))
        rule = ((0, 0, 0, 0, 2, 2, 4), 3, 4)
        star = star_rule(rule)
        self.holds(star, plain_star(plain_values(rule, 200)))
        for x in list(range(40)) + [BIG, BIG - 1, BIG - 2]:
            self.parts_hold(rule, star, x)

    def test_no_best_part_and_a_shorter_period(self):
        # from 4 and 6 the odd amounts come by 1 alike, though 5 and 7 are not alike
        rule = ((0, 17, 34, 51, 79, 95, 119, 130), 4, 80)
        self.assertIsNone(rule_error(rule))
        star = star_rule(rule)
        self.assertEqual(star[1:], (2, 40))
        self.holds(star, plain_star(plain_values(rule, 200)))
        with mock.patch("smallchange.rules.MAX_TOLD", 0):
            self.too_long(len(star[0]), star_rule, rule)

    def test_flat(self):
        zero = ((0,), 1, 0)
        self.assertEqual(star_rule(zero), zero)
        self.parts_hold(zero, zero, BIG)
        self.assertEqual(star_rule(((0, 1), 1, 0)), ((0,), 1, 1))
        self.assertEqual(star_rule(((0,) * 199 + (1,), 1, 0)), ((0,) * 199, 199, 1))

    def test_star_of_a_star(self):
        rng = seeded(26)
        for _ in range(150):
            star = star_rule(canonical(*some_rule(rng, 9, 6, 0)))
            self.assertEqual(star_rule(star), star)

    def test_long_tables(self):
        rng = seeded(27)
        for period in (1, 39, 40):
            table = [0] + sorted(rng.randint(0, 10 ** 11) for _ in range(199))
            for rise in (table[-1] - table[-1 - period], 10 ** 12 - 1):
                rule = canonical(table, period, max(rise, table[-1] - table[-period]))
                star = star_rule(rule)
                self.holds(star, plain_star(plain_values(rule, 500)))
                for x in (7, 400, 5000, BIG):
                    self.parts_hold(rule, star, x)
        self.holds(star_rule(LONG), plain_star(plain_values(LONG, 400)))

    def test_no_start(self):
        for value in (1, 10 ** 12 - 1):
            rule = ((value,), 1, 1)
            for call in (lambda: star_rule(rule), lambda: star_parts(rule, 0), lambda: star_parts(rule, BIG)):
                with self.assertRaises(NoStart) as caught:
                    call()
                self.assertIs(caught.exception.value, rule[0][0])

    def test_no_start_comes_first(self):
        table, period, rise = early_loss(10 ** 11)
        raised = canonical([y + 1 for y in table], period, rise)
        with self.assertRaises(NoStart) as caught:
            star_parts(raised, 3)
        self.assertEqual(caught.exception.value, 1)

    def test_too_long_without_a_best_part(self):
        rule = early_loss(4999)
        self.assertIsNone(rule_error(rule))
        star = star_rule(rule)
        self.assertEqual(len(star[0]), 5000)
        self.holds(star, [max(4998 * x, 4999 * x - 4999) for x in range(6000)])
        for x in (0, 1, 4998, 4999, 5000, 5001, 10 ** 5, BIG):
            self.parts_hold(rule, star, x)
        for number in (5000, 10 ** 6, 10 ** 11):
            self.too_long(number + 1, star_rule, early_loss(number))
            for x in (0, 1, 2, 5000, BIG):
                self.too_long(number + 1, star_parts, early_loss(number), x)

    def test_too_long_with_a_best_part(self):
        # parts of 198 lose a little against those of 199, so up to 198 of them are best
        rule = ((0,) * 198 + (198 * 10 ** 6, 199 * 10 ** 6 + 1), 1, 0)
        sums = [0]
        for x in range(1, 90000):
            steps = [sums[x - 1]]
            if x >= 198:
                steps.append(sums[x - 198] + 198 * 10 ** 6)
            if x >= 199:
                steps.append(sums[x - 199] + 199 * 10 ** 6 + 1)
            sums.append(max(steps))
        gain = 199 * 10 ** 6 + 1
        begin = max([x for x in range(80000) if sums[x + 199] != sums[x] + gain]) + 1
        self.too_long(begin + 199, star_rule, rule)
        self.too_long(begin + 199, star_parts, rule, 0)

    def test_numbers_are_those_of_the_tables(self):
        # with a bound of 0 the number is told, whatever it is
        rng = seeded(29)
        longest = 0
        for number in range(1500):
            rule = some_losing_rule(rng) if number % 2 == 0 else canonical(*some_rule(rng, 14, 20, 0))
            count = len(star_rule(rule)[0])
            longest = max(longest, count)
            with mock.patch("smallchange.rules.MAX_TOLD", 0):
                self.too_long(count, star_rule, rule)
                self.too_long(count, star_parts, rule, number)
            with mock.patch("smallchange.rules.MAX_TOLD", count - 1):
                self.too_long(count, star_rule, rule)
            with mock.patch("smallchange.rules.MAX_TOLD", count):
                self.assertEqual(len(star_rule(rule)[0]), count)
        self.assertGreater(longest, 100)

    def test_medium_numbers_by_the_definition(self):
        # the loss of long parts makes the star late; of all but one part bounded sizes are enough
        rng = seeded(28)
        late = 0
        for _ in range(25):
            rise = rng.randint(5000, 11000)
            table = (0, rise - rng.randint(1, 2), 2 * rise - rng.randint(rise // 2, rise - 3))
            rule = canonical(table, 1, rise)
            values = plain_values(rule, 12000)
            sums = [0]
            for x in range(1, 12000):
                sums.append(max([values[x]] + [values[at] + sums[x - at] for at in (1, 2) if at <= x]))
            begin = max([x for x in range(11000) if sums[x + 1] != sums[x] + rise], default=-1) + 1
            if begin + 1 > 5000:
                late += 1
                self.too_long(begin + 1, star_rule, rule)
            else:
                self.assertEqual(len(star_rule(rule)[0]), begin + 1)
        self.assertGreater(late, 3)


if __name__ == "__main__":
    unittest.main()
