import unittest

from plain import Unchanged, is_shortest, plain_value, seeded
from plain_boards import B, CHAIN, D, some_board, uses_of
from smallchange.amounts import amount_rule, amount_way, endless_from, first_unlike, idle_offers, least_amount
from smallchange.desks import board_of
from smallchange.errors import Endless
from smallchange.rules import rule_error, value_of
from smallchange.ways import is_way, walk

E = (3, ((0, 2, 1, 1), (0, 5, 2, 4), (1, 2, 2, 3)))
F = (3, ((0, 2, 1, 1), (0, 4, 2, 2), (0, 5, 2, 4), (1, 2, 2, 3), (2, 1, 0, 1)))
G = (3, ((0, 1, 2, 1), (0, 2, 1, 4), (1, 3, 0, 2)))
# 13 of kind 0 are the least with a gain; less makes some of kind 2
LATE = (3, ((0, 3, 2, 2), (0, 8, 1, 7), (1, 5, 2, 3), (1, 6, 0, 7)))
# one kind of three is on the way, another kind leads only away, and loops lose nothing
TIGHT = (3, ((0, 2, 1, 3), (0, 5, 2, 4), (1, 3, 0, 2), (1, 5, 2, 2), (1, 7, 2, 3)))
# boards, a, c and the length of the table: these yields begin to repeat late
LONG = [((3, ((0, 8, 1, 1), (1, 7, 2, 7), (1, 8, 2, 8))), 0, 2, 344),
        ((3, ((0, 6, 1, 5), (0, 7, 1, 6), (2, 8, 0, 1))), 2, 1, 248),
        ((3, ((0, 7, 1, 1), (1, 7, 2, 3), (1, 8, 2, 4))), 0, 2, 154),
        ((2, ((0, 7, 1, 5), (0, 8, 1, 6))), 0, 1, 36)]
BOARDS = [B, E, F, G, LATE, TIGHT, CHAIN, (2, ()), (3, ()), D, (2, ((0, 1, 1, 0),)), (2, ((0, 8, 1, 8),)),
          (2, ((0, 2, 1, 1), (0, 3, 1, 2), (0, 7, 1, 5))), (3, ((0, 1, 1, 1), (1, 1, 0, 1), (1, 8, 2, 7))),
          (3, ((0, 1, 1, 8), (1, 7, 2, 8), (1, 8, 0, 1))),
          (3, ((1, 2, 0, 3), (1, 4, 2, 1), (2, 1, 0, 1)))]


def boards(seed, count, kinds=(2, 3, 3, 3)):
    """Boards, in many of which loops gain or lose little."""
    rng = seeded(seed)
    found = list(BOARDS)
    for _ in range(count):
        k = rng.choice(kinds)
        prices = [rng.randint(1, 8) for _ in range(k)]
        offers = {}
        for _ in range(rng.randint(1, 10)):
            a, b = rng.sample(range(k), 2)
            x = rng.randint(1, 8)
            offers[a, x, b, max(0, min(8, prices[a] * x // prices[b] + rng.choice([0, 0, 0, 0, 0, 1, -1])))] = True
        found.append((k, tuple(sorted(offers))))
    return found + [some_board(rng, rng.choice(kinds), 8) for _ in range(count // 4)]


def sides(board):
    return [(a, c) for a in range(board[0]) for c in range(board[0]) if a != c]


def alone(board, kind, amount):
    return tuple(amount if other == kind else 0 for other in range(board[0]))


def plain_yield(board, a, c, x, limit=1500):
    """The yield of x by all purses to which ways lead, None if it is endless, "many" if limit are too few."""
    most = {alone(board, a, x): 0}
    queue = [(alone(board, a, x), ())]
    while queue:
        purse, past = queue.pop()
        for taken, need, given, worth in board[1]:
            if taken == c or purse[taken] < need:
                continue
            amounts = list(purse)
            amounts[taken] -= need
            amounts[given] += worth if given != c else 0
            after = tuple(amounts)
            made = most[purse] + (worth if given == c else 0)
            if after not in most or made > most[after]:
                most[after] = made
                queue.append((after, past + (purse,)))
                # from less of everything, with more of something, it goes on without end
                grown = [old for old in past if old != after and all(y <= z for y, z in zip(old, after))]
                if grown and leads_to(board, c, after):
                    return None
                if len(most) > limit:
                    return "many"
    return max(most.values())


def leads_to(board, c, purse):
    """Whether a kind of which the purse has something, and offers not from c, lead to c."""
    found = [kind for kind in range(board[0]) if purse[kind] > 0]
    for kind in found:
        found.extend([b for a, _, b, y in board[1] if a == kind and a != c and y > 0 and b not in found])
    return c in found


def plain_endless(board, a, c, most):
    """The yields up to the first endless one, and whether there is one among those of all amounts up to most."""
    yields = []
    for x in range(most + 1):
        told = plain_yield(board, a, c, x)
        if told == "many":
            return None, None
        if told is None:
            return yields, True
        yields.append(told)
    return yields, False


class RuleTest(unittest.TestCase):
    def test_example(self):
        answers = [amount_rule(B, 0, 2), amount_rule(E, 0, 2), amount_rule(B, 2, 0)]
        self.assertEqual(answers, [((0, 0, 0, 0, 1, 2, 2, 2, 2), 9, 4), ((0, 0, 0, 0, 3, 4, 4, 4, 6, 7, 8, 8, 9), 5, 4),
                                   ((0,), 1, 0)])

    def test_plain_search(self):
        found = {"rule": 0, "endless": 0, "many": 0}
        for board in boards(101, 220):
            for a, c in sides(board):
                yields, endless = plain_endless(board, a, c, 14)
                if yields is None:
                    found["many"] += 1
                elif endless:
                    found["endless"] += 1
                    self.assertEqual(endless_from(board, a, c), len(yields), (board, a, c))
                    for call, more in [(amount_rule, ()), (amount_way, (0,)), (least_amount, (0,))]:
                        with self.assertRaises(Endless):
                            call(board, a, c, *more)
                elif endless_from(board, a, c) is None:
                    found["rule"] += 1
                    with Unchanged(self, board):
                        rule = amount_rule(board, a, c)
                    self.assertEqual([value_of(rule, x) for x in range(15)], yields, (board, a, c))
        self.assertGreater(found["rule"], 500)
        self.assertGreater(found["endless"], 60)

    def test_all_yields_repeat(self):
        """Behind the first 80 amounts, too, by the most that two lesser steps come to."""
        count = 0
        for board in boards(102, 60):
            for a, c in sides(board):
                if endless_from(board, a, c) is not None:
                    continue
                rule = amount_rule(board, a, c)
                self.assertIsNone(rule_error(rule))
                self.assertLess(len(rule[0]), 5000)
                if len(rule[0]) < 40:
                    self.assertTrue(is_shortest(rule), rule)
                told = strip_yields(board, a, c, 80)
                self.assertEqual([value_of(rule, x) for x in range(80)], told, (board, a, c))
                count += rule[2] > 0
        self.assertGreater(count, 100)

    def test_late_repeats(self):
        for board, a, c, number in LONG:
            rule = amount_rule(board, a, c)
            self.assertEqual(len(rule[0]), number)
            self.assertIsNone(rule_error(rule))
            self.assertEqual([value_of(rule, x) for x in range(number + 200)], strip_yields(board, a, c, number + 200))

    def test_boards_of_two_kinds(self):
        # 7 become 5, one more than 3 and 4 do
        self.assertEqual(amount_rule((2, ((0, 2, 1, 1), (0, 3, 1, 2), (0, 7, 1, 5))), 0, 1),
                         ((0, 0, 1, 2, 2, 3, 4), 7, 5))
        self.assertEqual(amount_rule((2, ((0, 8, 1, 8),)), 0, 1), ((0,) * 8, 8, 8))
        for board in [(2, ()), (2, ((0, 1, 1, 0),)), (2, ((1, 1, 0, 8),))]:
            self.assertEqual(amount_rule(board, 0, 1), ((0,), 1, 0))
        # offers from the kept kind are not used, though the loop gains
        self.assertEqual(amount_rule(D, 0, 1), ((0, 0), 2, 4))
        self.assertEqual(amount_rule(D, 1, 0), ((0, 0, 0), 3, 2))

    def test_boards_of_desks(self):
        desks = ((0, 1, 2, 3, "down", 1, 1, None), (1, 2, 3, 4, "up", 3, 1, None), (0, 2, 1, 2, "near", 4, 2, None))
        board = board_of(3, desks)
        rule = amount_rule(board, 0, 2)
        self.assertEqual([value_of(rule, x) for x in range(60)], strip_yields(board, 0, 2, 60))


class WayTest(unittest.TestCase):
    def holds(self, board, a, c, x, expected):
        with Unchanged(self, board):
            way = amount_way(board, a, c, x)
        self.assertEqual(way, amount_way(board, a, c, x))
        self.assertTrue(is_way(board, way))
        for first, _ in way:
            for index, _ in first if isinstance(first, tuple) else ((first, 1),):
                self.assertNotEqual(board[1][index][0], c)
        self.assertEqual(walk(board, alone(board, a, x), way)[c], expected, (board, a, c, x))
        return way

    def test_example(self):
        answers = [walk(B, (5, 0, 0), amount_way(B, 0, 2, 5))[2], least_amount(B, 0, 2, 7), least_amount(B, 2, 0, 1),
                   walk(B, (900000, 0, 0), amount_way(B, 0, 2, 900000))[2]]
        self.assertEqual(answers, [2, 18, None, 400000])

    def test_ways_to_all_yields(self):
        rng = seeded(103)
        count = 0
        for board in boards(104, 150) + [one[0] for one in LONG]:
            for a, c in sides(board):
                if endless_from(board, a, c) is not None:
                    continue
                rule = amount_rule(board, a, c)
                count += 1
                for x in [0, 1, 2, 5, 12, 33, rng.randint(0, 200), len(rule[0]) - 1, len(rule[0]), 10 ** 29,
                          10 ** 29 - rng.randint(1, 200), rng.randint(0, 10 ** 29), rng.randint(0, 10 ** 5)]:
                    way = self.holds(board, a, c, x, value_of(rule, x))
                    self.assertLess(len(way), 300)
        self.assertGreater(count, 400)

    def test_use_by_use(self):
        for board, a, c in [(B, 0, 2), (E, 0, 2), (TIGHT, 0, 2), (TIGHT, 1, 2)]:
            for x in range(30):
                way = self.holds(board, a, c, x, plain_yield(board, a, c, x, 10 ** 4))
                self.assertLessEqual(len(uses_of(way)), 4 * x)

    def test_amounts_that_lead_nowhere(self):
        for board, a, c in [(B, 2, 0), ((2, ()), 0, 1), ((3, ((0, 1, 1, 8), (2, 1, 0, 8))), 0, 2)]:
            for x in (0, 1, 7, 10 ** 29):
                self.holds(board, a, c, x, 0)


class LeastAmountTest(unittest.TestCase):
    def test_by_the_rule(self):
        rng = seeded(105)
        count = 0
        for board in boards(106, 100):
            for a, c in sides(board):
                if endless_from(board, a, c) is not None:
                    continue
                rule = amount_rule(board, a, c)
                for y in [0, 1, 2, 3, 7, 10 ** 30, rng.randint(0, 10 ** 30), rng.randint(0, 300)]:
                    x = least_amount(board, a, c, y)
                    if x is None:
                        self.assertTrue(rule[2] == 0 and rule[0][-1] < y)
                        continue
                    count += 1
                    self.assertGreaterEqual(value_of(rule, x), y)
                    if x > 0:
                        self.assertLess(value_of(rule, x - 1), y)
        self.assertGreater(count, 800)
        self.assertEqual(least_amount((2, ()), 0, 1, 0), 0)
        self.assertIsNone(least_amount((2, ()), 0, 1, 1))


class EndlessTest(unittest.TestCase):
    def test_example(self):
        self.assertEqual([endless_from(G, 0, 2), endless_from(G, 1, 2), endless_from(G, 0, 1)], [2, 3, None])

    def test_late_gains(self):
        self.assertEqual(endless_from(LATE, 0, 2), 13)
        yields, endless = plain_endless(LATE, 0, 2, 13)
        self.assertEqual((len(yields), endless), (13, True))
        self.assertEqual(endless_from(LATE, 1, 2), len(plain_endless(LATE, 1, 2, 20)[0]))

    def test_loops_that_do_not_count(self):
        # the loop gains, but nothing of it leads to the kept kind, or it needs offers from there
        self.assertIsNone(endless_from((3, ((0, 2, 1, 3), (1, 2, 0, 3), (2, 1, 0, 1))), 0, 2))
        self.assertIsNone(endless_from((3, ((0, 2, 1, 3), (1, 2, 0, 3), (1, 1, 2, 0))), 0, 2))
        self.assertIsNone(endless_from((3, ((0, 2, 2, 3), (2, 2, 1, 3), (1, 2, 0, 3))), 0, 2))
        self.assertEqual(amount_rule((3, ((0, 2, 1, 3), (1, 2, 0, 3), (2, 1, 0, 1))), 0, 2), ((0,), 1, 0))
        self.assertIsNone(endless_from(D, 0, 1))


class UnlikeTest(unittest.TestCase):
    def test_example(self):
        answers = [first_unlike(E, F, 0, 2), idle_offers(F, 0, 2), first_unlike(E, (3, E[1][1:]), 0, 2)]
        self.assertEqual(answers, [None, (1, 4), 4])

    def plain_unlike(self, one, other, a, c):
        """The least unlike yields by looking at all amounts to 1000, or to the first endless ones."""
        ends = [endless_from(board, a, c) for board in (one, other)]
        rules = [amount_rule(board, a, c) if end is None else None for board, end in zip((one, other), ends)]
        for x in range(1000):
            told = []
            for board, end, rule in zip((one, other), ends, rules):
                if end is None:
                    told.append(value_of(rule, x))
                else:
                    told.append("endless" if x >= end else plain_yield(board, a, c, x, 10 ** 5))
            if told[0] != told[1]:
                return x
            if told[0] == "endless":
                return None
        return None

    def test_rules_and_endless_yields(self):
        rng = seeded(107)
        found = {"alike": 0, "unlike": 0, "endless": 0}
        many = boards(108, 120, (3,))
        for one in many:
            if one[0] != 3:
                continue
            at = rng.randrange(len(one[1])) if one[1] else 0
            other = rng.choice([(3, one[1][:at] + one[1][at + 1:]), rng.choice([item for item in many if item[0] == 3])])
            for a, c in rng.sample(sides(one), 3):
                with Unchanged(self, one, other):
                    x = first_unlike(one, other, a, c)
                self.assertEqual(x, self.plain_unlike(one, other, a, c), (one, other, a, c))
                self.assertEqual(x, first_unlike(other, one, a, c))
                self.assertIsNone(first_unlike(one, one, a, c))
                found["alike" if x is None else "unlike"] += 1
                found["endless"] += endless_from(one, a, c) is not None
        self.assertGreater(min(found.values()), 15)

    def test_endless_yields(self):
        more = (3, ((0, 1, 2, 1), (0, 2, 1, 4), (1, 3, 0, 2), (1, 3, 2, 8)))
        self.assertIsNone(first_unlike(G, more, 0, 2))
        self.assertEqual(first_unlike(G, more, 1, 2), None)
        self.assertEqual(first_unlike(G, (3, G[1][1:] + ((1, 3, 2, 8),)), 0, 2), 1)
        self.assertEqual(first_unlike(G, (3, G[1][:2]), 0, 2), 2)
        self.assertEqual(first_unlike((3, LATE[1][:3]), LATE, 0, 2), 13)
        self.assertEqual(first_unlike((3, LATE[1][1:]), LATE, 0, 2), 3)

    def test_unlike_far_off(self):
        # of 7 by 8 and 6 by 7 the second one is greater only where 8 is left
        one, other = (2, ((0, 7, 1, 6), (0, 8, 1, 7))), (2, ((0, 8, 1, 7),))
        self.assertEqual(first_unlike(one, other, 0, 1), 7)
        for board, a, c, number in LONG:
            rule = amount_rule(board, a, c)
            for index in range(len(board[1])):
                rest = (board[0], board[1][:index] + board[1][index + 1:])
                other = amount_rule(rest, a, c)
                places = [x for x in range(2 * number) if plain_value(rule, x) != plain_value(other, x)]
                self.assertEqual(first_unlike(board, rest, a, c), places[0] if places else None)

    def test_idle_offers(self):
        count = 0
        for board in boards(109, 60):
            for a, c in sides(board):
                with Unchanged(self, board):
                    idle = idle_offers(board, a, c)
                expected = [index for index in range(len(board[1]))
                            if first_unlike(board, (board[0], board[1][:index] + board[1][index + 1:]), a, c) is None]
                self.assertEqual(idle, tuple(expected))
                self.assertTrue(all(index in idle for index, offer in enumerate(board[1]) if offer[0] == c))
                count += len(board[1]) > len(idle) > 0
        self.assertGreater(count, 80)

    def test_each_by_itself(self):
        # without one of two alike offers no yield is another one, without both they are
        board = (3, ((0, 1, 1, 1), (0, 2, 2, 2), (0, 3, 2, 3), (1, 2, 2, 2), (1, 3, 2, 3)))
        self.assertEqual(idle_offers(board, 0, 2), (0, 1, 2, 3, 4))
        self.assertEqual(idle_offers(G, 0, 2), ())
        self.assertEqual(idle_offers((3, G[1] + ((2, 1, 0, 8),)), 0, 2), (3,))
        self.assertEqual(idle_offers((2, ()), 0, 1), ())
        self.assertEqual(idle_offers(D, 0, 1), (1,))


def strip_yields(board, a, c, count):
    """The yields of all amounts less than count, none of which is endless, by trying all steps again and again.

    Of the kind between a and c there are never more than 16: who has 8 of it
    can use some first. Of a there are never more than four times as many.
    """
    others = [kind for kind in range(board[0]) if kind not in (a, c)]
    offers = [offer for offer in board[1] if offer[0] != c]
    high = count + 16 * 8 + 1
    width = 17 if others else 1
    most = [[0] * width for _ in range(high)]
    again = True
    while again:
        again = False
        for u in range(high):
            for v in range(width):
                best = max([most[u][v - 1] if v else 0, most[u - 1][v] if u else 0])
                for taken, x, given, y in offers:
                    left = [u - x, v] if taken == a else [u, v - x]
                    if min(left) < 0:
                        continue
                    if given != c:
                        left[0 if given == a else 1] += y
                    if left[0] < high and left[1] < width:
                        best = max(best, most[left[0]][left[1]] + (y if given == c else 0))
                if best > most[u][v]:
                    most[u][v] = best
                    again = True
    return [most[x][0] for x in range(count)]


if __name__ == "__main__":
    unittest.main()
