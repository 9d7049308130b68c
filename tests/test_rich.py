import unittest
from math import gcd

from plain import Unchanged, odd_values, replaced, seeded
from plain_boards import B, D, G, LEAK, ROUND, plain_purses, plain_walk, some_board, some_purse
from plain_rich import PlainClasses, counted_kinds, has_gaining_loop, plain_losses, plain_weights
from smallchange.boards import board_error
from smallchange.desks import board_of
from smallchange.errors import BadPurse, Endless, NoKind, Poor, TooMany
from smallchange.rich import bound, is_one_class, lack, lacks, lacks_hold, losses, order, rich_way, weights
from smallchange.ways import is_way, walk

E = (2, ((0, 5, 1, 2), (0, 8, 1, 3)))
RICH = 810000
ELSEWHERE = (4, ((0, 2, 1, 3), (1, 2, 0, 3), (2, 3, 3, 2)))
AHEAD = (4, ((0, 2, 1, 3), (1, 2, 0, 3), (1, 5, 2, 1), (2, 3, 3, 2)))
FREE = (4, ((0, 4, 1, 3), (0, 5, 2, 7), (2, 1, 3, 30), (3, 1, 2, 0)))
# 7 * 11 * 13, 10 * 10 * 10, 11 * 22 and 8 * 30 classes, and the most that there can be
ORDER_1001 = (4, ((0, 7, 3, 1), (1, 11, 3, 1), (2, 13, 3, 1)))
ORDER_1000 = (4, ((0, 10, 3, 1), (1, 10, 3, 1), (2, 10, 3, 1)))
ORDER_242 = (3, ((0, 11, 2, 1), (1, 22, 2, 3)))
ORDER_240 = (3, ((0, 8, 2, 3), (1, 30, 2, 7)))
ORDER_27000 = (4, ((0, 30, 3, 29), (1, 30, 3, 17), (2, 30, 3, 1)))
# one class: but with the offers to the last kind alone there were 30 * 30 * 29
MENDED = (4, ((0, 1, 1, 1), (0, 30, 3, 30), (1, 1, 2, 1), (1, 30, 3, 30), (2, 29, 3, 29)))
BOARDS = [(1, ()), (2, ()), (4, ()), B, E, ROUND, ELSEWHERE, FREE, ORDER_1000, ORDER_240, MENDED,
          (2, ((0, 1, 1, 0),)), (2, ((0, 1, 1, 1), (1, 1, 0, 1))), (2, ((0, 2, 1, 3), (1, 3, 0, 2))),
          (3, ((0, 2, 1, 0), (1, 3, 0, 30), (1, 4, 2, 1))), (3, ((0, 6, 1, 4), (0, 9, 2, 5), (1, 4, 0, 6)))]
ALL = [weights, losses, order]


def some_rich_board(rng, kinds, count, most):
    """A board with prices by which most offers lose little."""
    prices = [rng.randint(1, most) for _ in range(kinds)]
    offers = {}
    for _ in range(count if kinds > 1 else 0):
        a, b = rng.sample(range(kinds), 2)
        x = rng.randint(1, most)
        y = max(0, min(30, prices[a] * x // prices[b] - rng.choice([0, 0, 0, 1])))
        offers[a, x, b, y] = True
    return kinds, tuple(sorted(offers))


def boards(seed, count, most=12, kinds=(1, 2, 3, 3, 4)):
    rng = seeded(seed)
    found = [some_rich_board(rng, rng.choice(kinds), rng.randint(0, 9), most) for _ in range(count)]
    return BOARDS + found + [some_board(rng, rng.randint(2, 4), 6, 9) for _ in range(count // 3)]


def rich_purse(rng, kinds):
    return tuple(rng.choice([RICH, 10 ** 6, rng.randint(RICH, 10 ** 6)]) for _ in range(kinds))


class WeightsTest(unittest.TestCase):
    def test_example(self):
        answers = [weights(B, 2), losses(B, 2), order(B, 2), weights(B, 0), is_one_class(B, 2, (6, 0, 0), (0, 1, 5))]
        self.assertEqual(answers, [(4, 6, 9), (0, 7, 2, 0), 9, (1, 1, 0), True])

    def test_plain_reckoning(self):
        found = {"endless": 0, "told": 0}
        for board in boards(71, 250):
            for kind in range(board[0]):
                if has_gaining_loop(board, kind):
                    found["endless"] += 1
                    for call in ALL:
                        with self.assertRaises(Endless):
                            call(board, kind)
                    continue
                found["told"] += 1
                plain = PlainClasses(board, kind)
                with Unchanged(self, board):
                    self.assertEqual(weights(board, kind), plain.weights, (board, kind))
                    self.assertEqual(losses(board, kind), plain.losses)
                    self.assertEqual(order(board, kind), plain.order, (board, kind))
                self.assertTrue(all(type(weight) is int for weight in weights(board, kind)))
                self.assertEqual(gcd(*weights(board, kind)), 1)
                self.assertGreaterEqual(min(losses(board, kind), default=0), 0)
        self.assertGreater(min(found.values()), 50)

    def test_kinds_that_do_not_count(self):
        self.assertEqual(weights(FREE, 1), (3, 4, 0, 0))
        self.assertEqual(losses(FREE, 1), (0, 15, 0, 0))
        self.assertEqual((weights(FREE, 3), losses(FREE, 3)), ((42, 0, 30, 1), (168, 0, 0, 1)))
        self.assertEqual(weights((3, ()), 1), (0, 1, 0))
        self.assertEqual(losses((2, ((1, 3, 0, 0),)), 1), (3,))
        self.assertEqual((weights((1, ()), 0), losses((1, ()), 0), order((1, ()), 0)), ((1,), (), 1))

    def test_loops_elsewhere_and_ahead(self):
        self.assertEqual(weights(ELSEWHERE, 3), (0, 0, 2, 3))
        self.assertEqual(losses(ELSEWHERE, 3), (0, 0, 0))
        self.assertEqual(order(ELSEWHERE, 2), 1)
        for board, kind in [(ELSEWHERE, 0), (ELSEWHERE, 1), (AHEAD, 0), (AHEAD, 1), (AHEAD, 2), (AHEAD, 3), (D, 0),
                            (G, 1), (LEAK, 2)]:
            for call in ALL + [lacks]:
                with self.assertRaises(Endless):
                    call(board, kind)

    def test_orders(self):
        answers = [order(board, board[0] - 1) for board in
                   (ORDER_1001, ORDER_1000, ORDER_242, ORDER_240, ORDER_27000, MENDED)]
        self.assertEqual(answers, [1001, 1000, 242, 240, 27000, 1])
        self.assertEqual([order(E, 0), order(E, 1), order((2, ((0, 30, 1, 1),)), 1)], [1, 5, 30])
        self.assertEqual(weights(ORDER_27000, 3), (29, 17, 1, 30))
        self.assertTrue(is_one_class(ORDER_27000, 3, (30, 60, 0, 1), (0, 0, 30, 9)))
        self.assertFalse(is_one_class(ORDER_27000, 3, (30, 61, 0, 1), (0, 0, 30, 9)))

    def test_no_kind_comes_first(self):
        calls = [weights, losses, order, lacks, lambda board, kind: is_one_class(board, kind, None, None),
                 lambda board, kind: lack(board, kind, None), lambda board, kind: bound(board, kind, []),
                 lambda board, kind: rich_way(board, kind, "x"), lambda board, kind: lacks_hold(board, kind, 7)]
        for board in (D, B, (1, ()), ORDER_27000):
            for kind in list(odd_values()) + [board[0], -1, 4, True, False, "0", 0.0, (0,), [0]]:
                for call in calls:
                    with self.assertRaises(NoKind) as caught:
                        call(board, kind)
                    self.assertIs(caught.exception.kind, kind)


class ClassTest(unittest.TestCase):
    def test_plain_reckoning(self):
        rng = seeded(72)
        found = {True: 0, False: 0}
        for board in boards(73, 120):
            for kind in range(board[0]):
                if has_gaining_loop(board, kind):
                    continue
                plain = PlainClasses(board, kind)
                for _ in range(4):
                    one = tuple(rng.randint(0, 20) for _ in range(board[0]))
                    other = tuple(rng.choice([amount, rng.randint(0, 20)]) for amount in one)
                    alike = plain.alike(plain.placed(one), plain.placed(other))
                    found[alike] += 1
                    with Unchanged(self, board, one, other):
                        self.assertIs(is_one_class(board, kind, one, other), alike, (board, kind, one, other))
        self.assertGreater(min(found.values()), 200)

    def test_free_kinds(self):
        self.assertTrue(is_one_class(FREE, 1, (4, 0, 3, 5), (0, 10 ** 6, 0, 9)))
        self.assertFalse(is_one_class(FREE, 1, (5, 0, 3, 5), (0, 0, 3, 5)))
        self.assertTrue(is_one_class((4, ()), 2, (0, 1, 2, 3), (9, 8, 7, 6)))

    def test_bad_purses(self):
        good = (1, 2, 3)
        wrong = [value for value in odd_values()] + list(replaced(good))
        wrong += [(1, 2), (1, 2, 3, 4), (1, 2, 10 ** 6 + 1), (1, 2, -1), (1, True, 3), (False, 2, 3), [1, 2, 3]]
        for value in wrong:
            if type(value) is tuple and len(value) == 3 and all(
                    type(amount) is int and 0 <= amount <= 10 ** 6 for amount in value):
                continue
            for call, given in [(is_one_class, (value, good)), (is_one_class, (good, value)), (lack, (value,)),
                                (is_one_class, (value, None)), (bound, (value,)), (rich_way, (value,))]:
                with self.assertRaises(BadPurse) as caught:
                    call(B, 2, *given)
                self.assertIs(caught.exception.value, value)
        first, second = [5], "no"
        with self.assertRaises(BadPurse) as caught:
            is_one_class(B, 2, first, second)
        self.assertIs(caught.exception.value, first)

    def test_order_of_errors(self):
        for call in (lack, bound, rich_way):
            with self.assertRaises(Endless):
                call(D, 0, None)
            with self.assertRaises(BadPurse):
                call(ORDER_1001, 3, (1, 2, 3))
            with self.assertRaises(TooMany):
                call(ORDER_1001, 3, (0, 0, 0, 0))
        with self.assertRaises(Endless):
            is_one_class(D, 0, None, None)
        self.assertTrue(is_one_class(ORDER_1001, 3, (7, 0, 13, 0), (0, 22, 0, 5)))
        with self.assertRaises(Poor):
            rich_way(ORDER_1000, 3, (0, 0, 0, 0))


class LackTest(unittest.TestCase):
    def test_example(self):
        answers = [lack(B, 2, (5, 0, 0)), [bound(B, 2, (x, 0, 0)) for x in (3, 4, 5, 9, 17)], lack(E, 1, (3, 0)),
                   bound(E, 1, (3, 0))]
        self.assertEqual(answers, [2, [0, 1, 2, 4, 6], 1, 1])
        self.assertEqual(max(purse[1] for purse in plain_purses(E, (3, 0), 99)), 0)

    def test_plain_reckoning(self):
        rng = seeded(74)
        many = 0
        for board in boards(75, 200, 6, (2, 3)):
            for kind in range(board[0]):
                if has_gaining_loop(board, kind):
                    continue
                plain = PlainClasses(board, kind)
                if plain.order > 30:
                    continue
                many += plain.order > 1
                vectors = plain.least_vectors()
                told = plain.least_losses(vectors)
                for _ in range(4):
                    purse = tuple(rng.choice([rng.randint(0, 30), rng.randint(0, 10 ** 6)]) for _ in range(board[0]))
                    expected = told[plain.class_of(vectors, plain.placed(purse))]
                    with Unchanged(self, board, purse):
                        self.assertEqual(lack(board, kind, purse), expected, (board, kind, purse))
                    worth = sum(amount * weight for amount, weight in zip(purse, plain.weights))
                    self.assertEqual((worth - expected) % plain.weights[kind], 0)
                    self.assertEqual(bound(board, kind, purse), (worth - expected) // plain.weights[kind])
                    self.assertIs(type(bound(board, kind, purse)), int)
        self.assertGreater(many, 100)

    def test_no_way_makes_more_than_the_bound(self):
        rng = seeded(76)
        found = {"just": 0, "less": 0}
        for board in boards(77, 400, 8):
            purse = some_purse(rng, board[0], 14)
            purses = plain_purses(board, purse, 1500)
            for kind in range(board[0]):
                if purses is not None and not has_gaining_loop(board, kind) and order(board, kind) <= 1000:
                    most = max(item[kind] for item in purses)
                    limit = bound(board, kind, purse)
                    self.assertLessEqual(most, limit, (board, purse, kind))
                    found["just" if most == limit else "less"] += 1
        self.assertGreater(min(found.values()), 80)

    def test_edges(self):
        self.assertEqual([lack((1, ()), 0, (9,)), bound((1, ()), 0, (9,))], [0, 9])
        self.assertEqual([bound((3, ()), 1, (7, 8, 9)), bound(FREE, 1, (0, 5, 10 ** 6, 10 ** 6))], [8, 5])
        for board in BOARDS:
            for kind in range(board[0]):
                if not has_gaining_loop(board, kind):
                    self.assertEqual(lack(board, kind, (0,) * board[0]), 0)
        # nothing but throwing away, at 27 by 1, 27 by 1 and 27 by 1
        self.assertEqual(lack(ORDER_1000, 3, (9, 9, 9, 5)), 27)
        self.assertEqual(bound(ORDER_1000, 3, (10 ** 6, 10 ** 6, 10 ** 6, 5)), 300005)


class RichWayTest(unittest.TestCase):
    def holds(self, board, kind, purse):
        with Unchanged(self, board, purse):
            way = rich_way(board, kind, purse)
        self.assertEqual(way, rich_way(board, kind, purse))
        self.assertTrue(is_way(board, way))
        self.assertEqual(walk(board, purse, way)[kind], bound(board, kind, purse), (board, kind, purse))

    def test_example(self):
        purse = (810003, 810000)
        self.assertEqual([bound(E, 1, purse), walk(E, purse, rich_way(E, 1, purse))[1]], [1134001, 1134001])
        stuck, end = plain_walk(E, purse, rich_way(E, 1, purse))
        self.assertEqual((stuck, end[1]), (None, 1134001))

    def test_many_boards(self):
        rng = seeded(78)
        count = 0
        for board in boards(79, 300, 30, (2, 3, 4)):
            for kind in range(board[0]):
                if not has_gaining_loop(board, kind) and order(board, kind) <= 1000:
                    count += order(board, kind) > 1
                    self.holds(board, kind, rich_purse(rng, board[0]))
        self.assertGreater(count, 250)

    def test_boards_of_desks(self):
        rng = seeded(80)
        for _ in range(30):
            desks = tuple((a, b, rng.randint(1, 3), rng.randint(3, 4), rng.choice(["down", "near"]), 1, 1, 12)
                          for a, b in [rng.sample(range(3), 2) for _ in range(3)])
            board = board_of(3, desks)
            self.assertIsNone(board_error(board))
            for kind in range(3):
                if not has_gaining_loop(board, kind) and order(board, kind) <= 1000:
                    self.holds(board, kind, rich_purse(rng, 3))

    def test_many_classes(self):
        for board in (ORDER_1000, MENDED, FREE):
            for kind in range(board[0]):
                for purse in [(RICH,) * board[0], (10 ** 6,) * board[0], (810029, 810017, 810001, 810000)]:
                    self.holds(board, kind, purse)
        for more in range(30):
            self.holds(MENDED, 3, (RICH + more, RICH, RICH, RICH))
            self.holds(ORDER_1000, 3, (RICH, RICH + more, RICH, RICH))

    def test_poor_purses(self):
        self.holds(B, 2, (RICH, RICH, RICH))
        for purse, kind in [((RICH - 1, RICH, RICH), 0), ((RICH, RICH - 1, RICH), 1), ((RICH, RICH, RICH - 1), 2),
                            ((RICH, 0, RICH - 1), 1), ((0, 0, 0), 0)]:
            with self.assertRaises(Poor) as caught:
                rich_way(B, 2, purse)
            self.assertEqual(caught.exception.kind, kind)
        # kinds that do not count may be missing
        self.holds(FREE, 1, (RICH, RICH, 0, 0))
        self.holds((3, ()), 1, (0, RICH, 0))
        self.assertEqual(rich_way((1, ()), 0, (RICH,)), ())
        with self.assertRaises(Poor) as caught:
            rich_way((3, ()), 1, (RICH, RICH - 1, RICH))
        self.assertEqual(caught.exception.kind, 1)


class LacksTest(unittest.TestCase):
    def test_example(self):
        told = (((0, 0), 0), ((1, 0), 2), ((2, 0), 4), ((3, 0), 1), ((4, 0), 3))
        self.assertEqual(lacks(E, 1), told)
        self.assertIs(lacks_hold(E, 1, (((0, 7), 0), ((2, 0), 4), ((3, 1), 1), ((4, 0), 3), ((6, 0), 2))), True)

    def test_plain_reckoning(self):
        count = 0
        for board in boards(81, 200, 6, (2, 3)):
            for kind in range(board[0]):
                if has_gaining_loop(board, kind):
                    continue
                plain = PlainClasses(board, kind)
                if plain.order > 16:
                    continue
                vectors = plain.least_vectors()
                count += plain.order > 1
                purses = []
                for one in vectors:
                    amounts = dict(zip(plain.places, one))
                    purses.append(tuple(amounts.get(place, 0) for place in range(board[0])))
                with Unchanged(self, board):
                    told = lacks(board, kind)
                self.assertEqual(told, tuple(zip(purses, plain.least_losses(vectors))), (board, kind))
                self.assertIs(lacks_hold(board, kind, told), True)
        self.assertGreater(count, 100)

    def test_other_purses_of_the_classes(self):
        rng = seeded(82)
        for board, kind in [(B, 2), (E, 1), (ORDER_240, 2), (FREE, 1), (FREE, 3), ((3, ()), 0)]:
            told = lacks(board, kind)
            values = []
            for purse, number in told:
                other = [amount if place in counted_kinds(board, kind) and place != kind else rng.randint(0, 10 ** 6)
                         for place, amount in enumerate(purse)]
                values.append((tuple(other), number))
            self.assertIs(lacks_hold(board, kind, tuple(sorted(values))), True)
            if len(values) > 1:
                self.assertIs(lacks_hold(board, kind, tuple(sorted(values, reverse=True))), False)
                self.assertIs(lacks_hold(board, kind, tuple(sorted(values))[1:]), False)
                self.assertIs(lacks_hold(board, kind, tuple(sorted(values + values[:1]))), False)
                twice = sorted(values[1:] + [(tuple(amount + (place == kind) for place, amount in enumerate(
                    values[1][0])), values[1][1])])
                self.assertIs(lacks_hold(board, kind, tuple(twice)), False)

    def test_any_value(self):
        for board, kind in [(E, 1), (B, 0), (B, 2), ((1, ()), 0), ((2, ()), 1), ((2, ((0, 2, 1, 1),)), 1)]:
            told = lacks(board, kind)
            plain = PlainClasses(board, kind)
            vectors = plain.least_vectors()
            least = plain.least_losses(vectors)
            for value in [told] + list(replaced(told)):
                before = repr(value)
                expected = is_plain_lacks(board, plain, vectors, least, value)
                self.assertIs(lacks_hold(board, kind, value), expected, value)
                self.assertEqual(repr(value), before)
        self.assertIs(lacks_hold((2, ((0, 2, 1, 1),)), 1, (((0, 0), 0), ((1, 0), 1))), True)
        self.assertIs(lacks_hold((2, ((0, 2, 1, 1),)), 1, (((0, 0), 0), ((1, 0), True))), False)
        self.assertIs(lacks_hold((2, ((0, 2, 1, 1),)), 1, (((0, 0), 0), ((True, 0), 1))), False)
        self.assertIs(lacks_hold((2, ((0, 2, 1, 1),)), 1, (((0, False), 0), ((1, 0), 1))), False)
        self.assertIs(lacks_hold((2, ((0, 2, 1, 1),)), 1, (((0, 0), 0), ((10 ** 6 - 1, 0), 1))), True)
        self.assertIs(lacks_hold((2, ((0, 2, 1, 1),)), 1, (((0, 0), 0), ((10 ** 6 + 1, 0), 1))), False)
        self.assertIs(lacks_hold(B, 2, lacks(E, 1)), False)

    def test_too_many(self):
        self.assertEqual(len(lacks(ORDER_240, 2)), 240)
        self.assertIs(lacks_hold(ORDER_240, 2, lacks(ORDER_240, 2)), True)
        for value in (None, (), lacks(ORDER_240, 2)):
            with self.assertRaises(TooMany):
                lacks_hold(ORDER_242, 2, value)
        for board in (ORDER_242, ORDER_27000):
            with self.assertRaises(TooMany):
                lacks(board, board[0] - 1)
        with self.assertRaises(Endless):
            lacks_hold(D, 0, None)
        self.assertEqual(lack(ORDER_242, 2, (10, 0, 0)), 10 * weights(ORDER_242, 2)[0])


def is_plain_lacks(board, plain, vectors, least, value):
    """Whether any value is what lacks_hold asks for."""
    if type(value) is not tuple or len(value) != plain.order:
        return False
    for pair in value:
        if type(pair) is not tuple or len(pair) != 2 or type(pair[0]) is not tuple or type(pair[1]) is not int:
            return False
        if len(pair[0]) != board[0]:
            return False
        if not all(type(amount) is int and 0 <= amount <= 10 ** 6 for amount in pair[0]):
            return False
    places = [plain.class_of(vectors, plain.placed(purse)) for purse, _ in value]
    return (list(value) == sorted(value) and sorted(places) == list(range(plain.order))
            and all(least[place] == pair[1] for place, pair in zip(places, value)))


class PlainTest(unittest.TestCase):
    def test_the_plain_reckoning_itself(self):
        self.assertEqual((plain_weights(B, 2), plain_losses(B, 2)), ((4, 6, 9), (0, 7, 2, 0)))
        plain = PlainClasses(E, 1)
        self.assertEqual((plain.order, plain.least_vectors()), (5, [(0,), (1,), (2,), (3,), (4,)]))
        self.assertEqual(plain.least_losses(plain.least_vectors()), [0, 2, 4, 1, 3])


if __name__ == "__main__":
    unittest.main()
