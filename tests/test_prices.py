import unittest
from fractions import Fraction
from math import gcd

from plain import Unchanged, is_integer, odd_values, replaced, seeded
from plain_boards import B, D, E, G, plain_is_loop, plain_loops, plain_trails, some_board
from smallchange.boards import board_error
from smallchange.errors import BadLoop, Endless, NoKind
from smallchange.prices import best_trail, leads, loop_purse, ratio, worths, worths_hold
from smallchange.ways import walk

BOARDS = [
    (1, ()), (2, ()), (4, ()), B, D, E, G,
    (2, ((0, 1, 1, 0), (1, 1, 0, 30))),
    (2, ((0, 1, 1, 1), (1, 1, 0, 1))),
    (2, ((0, 30, 1, 1), (1, 30, 0, 1))),
    (2, ((0, 30, 1, 29), (1, 29, 0, 30))),
    (2, ((0, 30, 1, 29), (1, 28, 0, 29))),
    (3, ((0, 1, 1, 2), (1, 1, 2, 2), (2, 4, 0, 1))),
    (3, ((0, 1, 1, 2), (1, 1, 2, 2), (2, 4, 0, 1), (2, 5, 0, 2))),
    (4, ((0, 1, 1, 30), (1, 1, 2, 30), (2, 1, 3, 30), (3, 30, 0, 1))),
    (4, ((0, 30, 1, 1), (1, 30, 2, 1), (2, 30, 3, 1))),
    (4, ((0, 1, 1, 1), (2, 1, 3, 2), (3, 1, 2, 1))),
]


def some_prices_board(rng):
    """A board by whose prices most offers lose little, so that few loops gain."""
    kinds = rng.randint(2, 4)
    prices = [rng.randint(1, 12) for _ in range(kinds)]
    offers = {}
    for _ in range(rng.randint(0, 12)):
        a, b = rng.sample(range(kinds), 2)
        x = rng.randint(1, 30)
        y = min(30, prices[a] * x // prices[b] + (1 if rng.random() < 0.05 else 0))
        offers[a, x, b, y] = True
    return kinds, tuple(sorted(offers))


def boards(seed, count):
    rng = seeded(seed)
    return BOARDS + [some_prices_board(rng) if rng.random() < 0.6 else some_board(rng, rng.randint(1, 4), 10, 30)
                     for _ in range(count)]


def gaining_loops(board):
    return [indexes for worth, indexes in plain_loops(board) if worth > 1]


def are_plain_prices(board, value):
    """Whether any value is prices, by the words of point 12."""
    if type(value) is not tuple or len(value) != board[0] or not all(is_integer(one) and one >= 1 for one in value):
        return False
    return all(value[a] * x >= value[b] * y for a, x, b, y in board[1])


def plain_holds(board, value):
    if type(value) is not tuple or len(value) != 2:
        return False
    if value[0] == "loop":
        return plain_is_loop(board, value[1])
    return value[0] == "prices" and are_plain_prices(board, value[1])


class WorthsTest(unittest.TestCase):
    def test_example(self):
        self.assertEqual([worths(B)[0], worths_hold(B, ("prices", (4, 6, 9))), worths_hold(B, ("prices", (4, 6, 10))),
                          worths_hold(D, ("loop", (1, 0, 1, 0)))], ['prices', True, False, True])

    def test_plain_search(self):
        words = {"loop": 0, "prices": 0}
        for board in boards(31, 1500):
            self.assertIsNone(board_error(board))
            with Unchanged(self, board):
                result = worths(board)
            self.assertEqual(result, worths(board))
            self.assertEqual((type(result), len(result)), (tuple, 2))
            word, told = result
            words[word] += 1
            loops = gaining_loops(board)
            if word == "loop":
                self.assertIn(told, loops)
                self.assertEqual(told[0], min(told))
            else:
                self.assertEqual(loops, [])
                self.assertTrue(are_plain_prices(board, told), (board, told))
            self.assertIs(worths_hold(board, result), True)
        self.assertGreater(min(words.values()), 300)

    def test_full_boards(self):
        rng = seeded(32)
        for _ in range(100):
            kinds = 4
            offers = {}
            while len(offers) < 40:
                a, b = rng.sample(range(kinds), 2)
                offers[a, rng.randint(1, 30), b, rng.randint(0, 12 if a < b else 1)] = True
            board = (kinds, tuple(sorted(offers)))
            self.assertIsNone(board_error(board))
            result = worths(board)
            self.assertTrue(plain_holds(board, result))
            self.assertEqual(result[0] == "loop", bool(gaining_loops(board)))

    def test_no_loop_over_offers_that_give_nothing(self):
        board = (2, ((0, 1, 1, 0), (1, 1, 0, 30)))
        self.assertEqual(worths(board)[0], "prices")
        self.assertFalse(worths_hold(board, ("loop", (0, 1))))

    def test_loops_that_break_even(self):
        self.assertEqual(worths((2, ((0, 1, 1, 1), (1, 1, 0, 1))))[0], "prices")
        self.assertEqual(worths((2, ((0, 30, 1, 29), (1, 29, 0, 30))))[0], "prices")
        self.assertEqual(worths((2, ((0, 30, 1, 29), (1, 28, 0, 29)))), ("loop", (0, 1)))

    def test_begins_with_the_least_index(self):
        board = (3, ((0, 1, 2, 2), (1, 1, 0, 2), (2, 1, 1, 2)))
        self.assertEqual(worths(board), ("loop", (0, 2, 1)))

    def test_holds_for_loops_that_take_kinds_several_times(self):
        board = (3, ((0, 2, 1, 3), (1, 1, 0, 1), (1, 1, 2, 1), (2, 1, 1, 1)))
        for indexes in [(0, 1), (1, 0), (0, 2, 3, 1), (2, 3, 1, 0), (0, 1, 0, 1), (0, 1) * 1000, (2, 3, 2, 3, 1, 0)]:
            self.assertIs(worths_hold(board, ("loop", indexes)), True)
        for indexes in [(), (0,), (0, 0), (2, 3), (0, 2, 3), (0, 1, 1), (0, 1, 2), (0, 4), (-4, 1), (0, 1, 0), [0, 1],
                        (0, True), (False, 1), (0, None), (0, (1,)), (0, "1"), None, "loop", {}, (0, 10 ** 50)]:
            self.assertIs(worths_hold(board, ("loop", indexes)), False, indexes)

    def test_holds_for_any_prices(self):
        board = (2, ((0, 2, 1, 3), (1, 2, 0, 1), (1, 1, 0, 0)))
        for prices in [(3, 2), (4, 2), (2, 1), (10 ** 59, 10 ** 59 // 2)]:
            self.assertIs(worths_hold(board, ("prices", prices)), True)
        for prices in [(1, 1), (5, 2), (2, 0), (0, 0), (-3, -2), (True, True), (3, 2, 1), (3,), (), [3, 2], (3, None),
                       (3, "2"), (3, (2,)), None, 3]:
            self.assertIs(worths_hold(board, ("prices", prices)), False, prices)
        self.assertIs(worths_hold((1, ()), ("prices", (1,))), True)
        self.assertIs(worths_hold((1, ()), ("prices", (True,))), False)
        self.assertIs(worths_hold((1, ()), ("loop", ())), False)

    def test_holds_for_any_value(self):
        for board in [B, D, (1, ()), (4, BOARDS[14][1])]:
            values = list(odd_values()) + list(replaced(worths(board))) + [("prices",), ("loop",), ("price", (1, 1)),
                                                                           ["loop", (0, 1)], ("loop", (0, 1), 0)]
            for value in values:
                before = repr(value)
                self.assertIs(worths_hold(board, value), plain_holds(board, value))
                self.assertEqual(repr(value), before)


class LoopPurseTest(unittest.TestCase):
    def refused(self, board, value):
        with self.assertRaises(BadLoop) as caught:
            loop_purse(board, value)
        self.assertIs(caught.exception.indexes, value)

    def test_examples(self):
        self.assertEqual(loop_purse(D, (0, 1)), ((6, 0), ((0, 3), (1, 4))))
        self.refused(D, (0,))

    def test_begins_anywhere(self):
        self.assertEqual(loop_purse(D, (1, 0)), ((0, 3), ((1, 1), (0, 1))))
        board = (3, ((0, 1, 2, 2), (1, 1, 0, 2), (2, 3, 1, 2)))
        self.assertEqual(loop_purse(board, (0, 2, 1)), ((3, 0, 0), ((0, 3), (2, 2), (1, 4))))
        self.assertEqual(loop_purse(board, (2, 1, 0)), ((0, 0, 3), ((2, 1), (1, 2), (0, 4))))
        self.assertEqual(loop_purse(board, (1, 0, 2)), ((0, 3, 0), ((1, 3), (0, 6), (2, 4))))

    def test_all_loops(self):
        count = 0
        for board in boards(33, 600):
            for indexes in gaining_loops(board):
                count += 1
                with Unchanged(self, board, indexes):
                    purse, way = loop_purse(board, indexes)
                self.assertEqual(loop_purse(board, indexes), (purse, way))
                self.assertEqual((type(purse), type(way)), (tuple, tuple))
                self.assertEqual(tuple(index for index, times in way), indexes)
                shared = 0
                for index, times in way:
                    shared = gcd(shared, times)
                self.assertEqual(shared, 1)
                first = board[1][indexes[0]][0]
                for kind in range(board[0]):
                    self.assertEqual(purse[kind], way[0][1] * board[1][indexes[0]][1] if kind == first else 0)
                at = purse
                for run in way:
                    at = walk(board, at, (run,))
                    # nothing is left but of the kind that was given
                    self.assertEqual(len([amount for amount in at if amount > 0]), 1)
                self.assertEqual([kind for kind in range(board[0]) if at[kind] > 0], [first])
                self.assertGreater(at[first], purse[first])
        self.assertGreater(count, 500)

    def test_great_times(self):
        board = (4, ((0, 29, 1, 30), (1, 29, 2, 30), (2, 29, 3, 30), (3, 29, 0, 30)))
        self.assertEqual(loop_purse(board, (0, 1, 2, 3)),
                         ((29 ** 4, 0, 0, 0), ((0, 29 ** 3), (1, 29 ** 2 * 30), (2, 29 * 900), (3, 27000))))

    def test_other_loops(self):
        board = (3, ((0, 2, 1, 3), (1, 1, 0, 1), (1, 1, 2, 1), (2, 1, 1, 1), (2, 1, 0, 0), (2, 1, 0, 5)))
        self.assertEqual(loop_purse(board, (0, 2, 5))[0], (2, 0, 0))
        for value in [(0, 1, 0, 1), (0, 2, 3, 1), (2, 3), (0, 1, 1), (0, 2), (0, 2, 4), (1,), (), [0, 1], (0, True),
                      (False, 1), (0, 6), (-6, 1), None, "01", (0, 1, None), ((0, 1),), 0, {}]:
            self.refused(board, value)
        self.refused((2, ((0, 1, 1, 1), (1, 1, 0, 1))), (0, 1))
        self.refused((1, ()), ())
        self.refused((1, ()), (0,))

    def test_any_value(self):
        for value in list(odd_values()) + list(replaced((0, 1))) + [(0, 1)]:
            if plain_is_loop(D, value):
                self.assertEqual(loop_purse(D, value), ((6, 0), ((0, 3), (1, 4))))
            else:
                self.refused(D, value)


class TrailsTest(unittest.TestCase):
    def fails(self, error, call, *arguments):
        with self.assertRaises(error) as caught:
            call(*arguments)
        return caught.exception

    def test_examples(self):
        self.assertEqual([leads(B, 1, 2), leads(B, 2, 1), ratio(B, 0, 2), ratio(B, 1, 1), ratio(B, 2, 0),
                          best_trail(B, 0, 2)], [True, False, (4, 9), (1, 1), None, (0, 3)])
        self.fails(Endless, ratio, D, 0, 0)

    def plain_best(self, board, one, other):
        """"endless", None, or the best ratio and the least length of a trail with it."""
        trails = [(worth, len(indexes)) for kind, worth, indexes in plain_trails(board, one) if kind == other]
        if not trails:
            return None
        for indexes in gaining_loops(board):
            taken = board[1][indexes[0]][0]
            if plain_leads(board, one, taken) and plain_leads(board, taken, other):
                return "endless"
        best = max(worth for worth, count in trails)
        return best, min(count for worth, count in trails if worth == best)

    def trail_holds(self, board, one, other, best):
        trail = best_trail(board, one, other)
        self.assertIs(type(trail), tuple)
        worth = Fraction(1)
        at = one
        for index in trail:
            a, x, b, y = board[1][index]
            self.assertEqual(a, at)
            self.assertGreater(y, 0)
            worth *= Fraction(y, x)
            at = b
        self.assertEqual((at, worth, len(trail)), (other,) + best)

    def test_plain_search(self):
        found = {"endless": 0, "none": 0, "best": 0}
        for board in boards(34, 500):
            for one in range(board[0]):
                for other in range(board[0]):
                    best = self.plain_best(board, one, other)
                    with Unchanged(self, board):
                        self.assertIs(leads(board, one, other), best is not None)
                    if best == "endless":
                        self.fails(Endless, ratio, board, one, other)
                        self.fails(Endless, best_trail, board, one, other)
                        found["endless"] += 1
                    elif best is None:
                        self.assertIsNone(ratio(board, one, other))
                        self.assertIsNone(best_trail(board, one, other))
                        found["none"] += 1
                    else:
                        self.assertEqual(ratio(board, one, other), (best[0].numerator, best[0].denominator))
                        self.trail_holds(board, one, other, best)
                        found["best"] += 1
        self.assertGreater(min(found.values()), 300)

    def test_a_kind_leads_to_itself(self):
        for board in [(1, ()), B, (2, ((0, 1, 1, 1), (1, 1, 0, 1))), (2, ((0, 1, 1, 0),))]:
            for kind in range(board[0]):
                self.assertIs(leads(board, kind, kind), True)
                self.assertEqual((ratio(board, kind, kind), best_trail(board, kind, kind)), ((1, 1), ()))

    def test_offers_that_give_nothing_lead_to_nothing(self):
        board = (3, ((0, 1, 1, 0), (1, 1, 2, 5)))
        self.assertEqual([leads(board, 0, 1), leads(board, 0, 2), leads(board, 1, 2)], [False, False, True])
        self.assertEqual([ratio(board, 0, 1), best_trail(board, 0, 2), ratio(board, 1, 2)], [None, None, (5, 1)])

    def test_few_offers_of_equal_ratios(self):
        board = (4, ((0, 1, 1, 2), (0, 2, 3, 16), (1, 1, 2, 2), (2, 1, 3, 2)))
        self.assertEqual((ratio(board, 0, 3), best_trail(board, 0, 3)), ((8, 1), (1,)))
        longer = (4, ((0, 1, 1, 2), (0, 2, 3, 15), (1, 1, 2, 2), (2, 1, 3, 2)))
        self.assertEqual((ratio(longer, 0, 3), best_trail(longer, 0, 3)), ((8, 1), (0, 2, 3)))

    def test_endless_counts_only_loops_between(self):
        # a loop of the kinds 0 and 1 gains, 2 leads to it, it leads nowhere else, 3 stands alone
        board = (4, ((0, 1, 1, 2), (1, 1, 0, 1), (2, 1, 0, 1), (2, 3, 3, 2)))
        self.assertEqual([ratio(board, 2, 3), ratio(board, 2, 2), ratio(board, 3, 3), ratio(board, 0, 2)],
                         [(2, 3), (1, 1), (1, 1), None])
        for one, other in [(0, 0), (0, 1), (1, 0), (1, 1), (2, 0), (2, 1)]:
            self.fails(Endless, ratio, board, one, other)
            self.fails(Endless, best_trail, board, one, other)
        # now the loop leads on, but not from 3
        board = (4, ((0, 1, 1, 2), (1, 1, 0, 1), (1, 1, 2, 1), (3, 1, 2, 4)))
        self.assertEqual([ratio(board, 3, 2), best_trail(board, 3, 2), ratio(board, 2, 2)], [(4, 1), (3,), (1, 1)])
        self.fails(Endless, ratio, board, 0, 2)
        # None ahead of Endless
        self.assertEqual((ratio(board, 0, 3), best_trail(board, 2, 0)), (None, None))

    def test_no_kind(self):
        for call in (leads, ratio, best_trail):
            for value in odd_values() + [2, -1, True, False, 10 ** 60, (0,), [1], "0"]:
                if is_integer(value) and 0 <= value < 2:
                    continue
                self.assertIs(self.fails(NoKind, call, D, value, 0).kind, value)
                self.assertIs(self.fails(NoKind, call, D, 0, value).kind, value)
                other = [value]
                self.assertIs(self.fails(NoKind, call, D, value, other).kind, value)
                self.assertIs(self.fails(NoKind, call, D, other, value).kind, other)
            self.assertEqual(self.fails(NoKind, call, (4, ()), 0, 4).kind, 4)


def plain_leads(board, one, other):
    return any(kind == other for kind, worth, indexes in plain_trails(board, one))


if __name__ == "__main__":
    unittest.main()
