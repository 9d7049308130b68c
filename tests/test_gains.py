import unittest

from plain import Unchanged, is_integer, odd_values, replaced, seeded
from plain_boards import B, BOARDS, CHAIN, D, E, G, LEAK, ROUND, TWICE, plain_is_way, plain_leads_to, plain_levels
from plain_boards import plain_loops, plain_trails, plain_use, plain_walk, some_board, under, uses_of
from smallchange.errors import TooMany
from smallchange.gains import back_kinds, gain_from, gain_holds, least_gain, shortest_gain, stair

HUGE = 10 ** 30
# 13 of kind 0 are the least that gains
LATE = (2, ((0, 8, 1, 7), (1, 6, 0, 7)))
# here 12 are
TWELVE = [(2, ((0, 6, 1, 4), (1, 5, 0, 8))), (2, ((0, 6, 1, 7), (1, 8, 0, 7))), (2, ((0, 8, 1, 7), (1, 5, 0, 6)))]
# 8 or 4 of kind 0 gain by 30 uses, 3 or 6 only by more
THIRTY = [(3, ((0, 8, 2, 5), (1, 4, 0, 1), (1, 7, 2, 6), (2, 4, 1, 7), (2, 8, 1, 1))),
          (3, ((0, 4, 2, 4), (1, 2, 2, 4), (2, 4, 0, 1), (2, 5, 1, 5)))]
MORE = [(3, ((0, 3, 1, 3), (0, 5, 1, 7), (1, 3, 2, 5), (1, 7, 0, 1), (1, 8, 2, 1), (2, 3, 1, 2))),
        (3, ((0, 6, 1, 8), (1, 1, 2, 2), (1, 6, 0, 1), (2, 5, 1, 5), (2, 6, 1, 1)))]


def alone(board, kind, amount):
    return tuple(amount if other == kind else 0 for other in range(board[0]))


def plain_back_kinds(board, kind):
    return tuple(other for other in range(board[0]) if any(end == other for end, _, _ in plain_trails(board, kind))
                 and any(end == kind for end, _, _ in plain_trails(board, other)))


def inner_offers(board, kind):
    kinds = plain_back_kinds(board, kind)
    return tuple(offer for offer in board[1] if offer[0] in kinds and offer[2] in kinds)


def plain_gain_uses(board, purse, count, limit=4000):
    """The fewest uses of a gain, None if no way is one, "many" if count uses or limit purses are not enough."""
    levels = plain_levels(board, purse, count, limit)
    for uses, level in enumerate(levels):
        if any(item != purse and under(purse, item) for item in level):
            return uses
    return None if not levels[-1] else "many"


def may_gain(board, kind):
    """Whether some loop of inner offers gains."""
    inner = (board[0], inner_offers(board, kind))
    return any(worth > 1 for worth, indexes in plain_loops(inner))


def plain_holds(board, a, x, value):
    """Whether any value is what gain_from may return, by the words of point 16; for ways of few uses."""
    if type(value) is not tuple or len(value) != 2:
        return False
    purse = alone(board, a, x)
    if value[0] == "gain":
        end = plain_leads_to(board, purse, value[1])
        return end is not None and end != purse and under(purse, end)
    if value[0] != "closed" or type(value[1]) is not tuple:
        return False
    for item in value[1]:
        if type(item) is not tuple or len(item) != board[0] or not all(is_integer(one) and one >= 0 for one in item):
            return False
    if not any(under(purse, item) for item in value[1]):
        return False
    inner = (board[0], inner_offers(board, a))
    for item in value[1]:
        if item[a] >= x and item != purse:
            return False
        for index in range(len(inner[1])):
            after = plain_use(inner, item, index)
            if after is not None and not any(under(after, other) for other in value[1]):
                return False
    return True


def boards(seed, count):
    """Boards, many of which have loops that gain or lose little."""
    rng = seeded(seed)
    found = list(BOARDS) + [LATE] + TWELVE + THIRTY + MORE
    for _ in range(count):
        kinds = rng.choice([2, 3, 3])
        prices = [rng.randint(1, 8) for _ in range(kinds)]
        offers = {}
        for _ in range(rng.randint(2, 9)):
            a, b = rng.sample(range(kinds), 2)
            x = rng.randint(1, 8)
            offers[a, x, b, max(0, min(8, prices[a] * x // prices[b] + rng.choice([0, 0, 0, 1, -1])))] = True
        found.append((kinds, tuple(sorted(offers))))
    return found + [some_board(rng, rng.randint(1, 3)) for _ in range(count // 3)]


class BackKindsTest(unittest.TestCase):
    def test_example(self):
        self.assertEqual([back_kinds(B, 0), back_kinds(B, 2)], [(0, 1), (2,)])

    def test_plain_trails(self):
        for board in boards(91, 150):
            for kind in range(board[0]):
                self.assertEqual(back_kinds(board, kind), plain_back_kinds(board, kind))

    def test_edges(self):
        self.assertEqual(back_kinds((1, ()), 0), (0,))
        self.assertEqual(back_kinds((2, ((0, 1, 1, 1), (1, 1, 0, 0))), 1), (1,))
        self.assertEqual([back_kinds(ROUND, kind) for kind in range(3)], [(0, 1, 2)] * 3)
        self.assertEqual([back_kinds(CHAIN, kind) for kind in range(3)], [(0,), (1,), (2,)])


class GainTest(unittest.TestCase):
    def test_example(self):
        self.assertEqual([gain_from(G, 0, 5)[0], gain_from(G, 0, 6)[0]], ['closed', 'gain'])
        answers = [gain_holds(G, 0, 5, ('closed', ((5, 0), (0, 3), (4, 1)))),
                   gain_holds(G, 0, 5, ('closed', ((5, 0), (0, 3)))),
                   gain_holds(G, 0, 6, ('gain', ((0, 1), (1, 1), (0, 1), (1, 2))))]
        self.assertEqual(answers, [True, False, True])

    def test_plain_search(self):
        words = {"gain": 0, "closed": 0}
        for board in boards(92, 150):
            for kind in range(board[0]):
                for x in (0, 1, 2, 3, 5, 7, 9, 11, 12):
                    with Unchanged(self, board):
                        result = gain_from(board, kind, x)
                    self.assertEqual(result, gain_from(board, kind, x))
                    words[result[0]] += 1
                    self.assertIs(gain_holds(board, kind, x, result), True)
                    if result[0] == "closed" or len(uses_of(result[1])) < 5000:
                        self.assertTrue(plain_holds(board, kind, x, result), (board, kind, x, result))
                    uses = plain_gain_uses(board, alone(board, kind, x), 12, 2000)
                    if uses != "many":
                        self.assertEqual(result[0], "closed" if uses is None else "gain", (board, kind, x))
        self.assertGreater(min(words.values()), 200)

    def test_amounts_of_0(self):
        for board in BOARDS:
            for kind in range(board[0]):
                self.assertEqual(gain_from(board, kind, 0), ("closed", ((0,) * board[0],)))
                self.assertIs(gain_holds(board, kind, 0, ("closed", ((0,) * board[0],))), True)
                self.assertIs(gain_holds(board, kind, 0, ("closed", ((0,) * board[0],) * 3)), True)
                self.assertIs(gain_holds(board, kind, 0, ("closed", ((1,) * board[0],))), False)
                self.assertIs(gain_holds(board, kind, 0, ("gain", ())), False)

    def test_any_gain_holds(self):
        way = ((0, 1), (1, 1), (0, 1), (1, 2))
        for value in [way, ((way, 1),), ((way, HUGE),), way * 3000, ((((0, 1), (1, 1), (0, 1)), 1), (1, 2))]:
            self.assertIs(gain_holds(G, 0, 6, ("gain", value)), True)
        for value in [way + ((0, 1),), way[:-1], ((way, 0),), ((way, HUGE + 1),), [way], (list(way),), way + ((2, 1),)]:
            self.assertIs(gain_holds(G, 0, 6, ("gain", value)), False)
        # 300 runs, and offers that are not inner
        self.assertIs(gain_holds(LEAK, 0, 2, ("gain", ((0, 1), (1, 1)) * 150)), True)
        self.assertIs(gain_holds(LEAK, 0, 2, ("gain", ((0, 1), (1, 1)) * 30 + ((2, 3),) + ((0, 1), (1, 1)))), True)
        self.assertIs(gain_holds(LEAK, 0, 2, ("gain", ((0, 1),))), False)
        self.assertIs(gain_holds(LEAK, 0, 2, ("gain", ())), False)
        self.assertIs(gain_holds(LEAK, 0, 1, ("gain", ((0, 1), (1, 1)))), False)
        # what comes back is just what was there
        self.assertIs(gain_holds(ROUND, 0, 3, ("gain", ((0, 3), (1, 3)))), False)

    def test_any_closed_purses_hold(self):
        closed = ((5, 0), (0, 3), (4, 1))
        for value, expected in [(closed, True), (closed[::-1], True), (closed * 2, True), (closed + ((3, 1),), True),
                                (closed + ((4, 0),), True), (closed + ((5, 1),), False), (closed + ((6, 0),), False),
                                (closed + ((0, 4),), False), (closed[1:], False), ((), False), (closed[:1], False),
                                (closed + ((None, 0),), False), (closed + ((4, None),), False),
                                (closed + ((0, -1),), False), (closed + ((0, True),), False),
                                (closed + ((0, 1, 0),), False), (list(closed), False)]:
            self.assertIs(gain_holds(G, 0, 5, ("closed", value)), expected, value)
        # amounts of any size, of kinds of which nothing comes back
        big = 10 ** 60 - 1
        self.assertIs(gain_holds(B, 2, 7, ("closed", ((0, 0, 7), (big, big, 6)))), True)
        self.assertIs(gain_holds(B, 2, 7, ("closed", ((0, 0, 7), (big, big, 7)))), False)
        # offers that are not inner need not keep to the purses, others must
        self.assertIs(gain_holds(B, 0, 3, ("closed", ((3, 0, 0), (0, 2, 0), (1, 1, 0), (2, 0, 0)))), True)
        self.assertIs(gain_holds(B, 0, 3, ("closed", ((3, 0, 0), (0, 2, 0), (2, 0, 0)))), False)
        self.assertIs(gain_holds(CHAIN, 0, 12, ("closed", ((12, 0, 0),))), True)
        self.assertIs(gain_holds(CHAIN, 0, 12, ("closed", ((12, 1, 0),))), False)

    def test_any_value(self):
        for board, a, x in [(G, 0, 5), (G, 0, 6), (D, 1, 3), ((1, ()), 0, 4), (LEAK, 0, 2), (B, 1, 1)]:
            for value in [gain_from(board, a, x)] + list(odd_values()) + list(replaced(gain_from(board, a, x))):
                before = repr(value)
                if type(value) is tuple and len(value) == 2 and plain_is_way(board, value[1]):
                    if len(uses_of(value[1])) > 10 ** 5:
                        continue
                self.assertIs(gain_holds(board, a, x, value), plain_holds(board, a, x, value), value)
                self.assertEqual(repr(value), before)
        for value in [("gain", ()), ("gain",), ("closed",), ("gain", (), ()), ["gain", ()], ("Gain", ((0, 1), (1, 1))),
                      ("closed", ((0, 1), (1, 1))), ("gain", ((5, 0), (0, 3), (4, 1)))]:
            self.assertIs(gain_holds(G, 0, 5, value), False)


class LeastGainTest(unittest.TestCase):
    def too_many(self, call, *arguments):
        with self.assertRaises(TooMany):
            call(*arguments)

    def test_example(self):
        way = shortest_gain(G, 0)
        self.assertEqual([least_gain(G, 0), least_gain(G, 1), plain_walk(G, (6, 0), way)], [6, 4, (None, (8, 0))])
        self.assertEqual([least_gain(B, 0), shortest_gain(B, 1)], [None, None])

    def test_plain_search(self):
        found = {None: 0, "many": 0, "least": 0}
        for board in boards(93, 400):
            for kind in range(board[0]):
                if not may_gain(board, kind):
                    found[None] += 1
                    self.assertIsNone(least_gain(board, kind))
                    self.assertIsNone(shortest_gain(board, kind))
                    continue
                words = [gain_from(board, kind, x)[0] for x in range(13)]
                self.assertEqual(words, sorted(words))
                if "gain" not in words:
                    found["many"] += 1
                    self.too_many(least_gain, board, kind)
                    self.too_many(shortest_gain, board, kind)
                    continue
                found["least"] += 1
                with Unchanged(self, board):
                    self.assertEqual(least_gain(board, kind), words.index("gain"))
        self.assertGreater(found[None], 100)
        self.assertGreater(found["many"], 8)
        self.assertGreater(found["least"], 100)

    def test_fewest_uses(self):
        counts = {}
        for board in boards(94, 250):
            for kind in range(board[0]):
                if not may_gain(board, kind) or gain_from(board, kind, 12)[0] == "closed":
                    continue
                purse = alone(board, kind, least_gain(board, kind))
                uses = plain_gain_uses(board, purse, 30, 6000)
                if uses == "many":
                    continue
                counts[uses] = counts.get(uses, 0) + 1
                with Unchanged(self, board):
                    way = shortest_gain(board, kind)
                self.assertEqual(way, shortest_gain(board, kind))
                self.assertEqual(len(uses_of(way)), uses, (board, kind, way))
                self.assertTrue(plain_holds(board, kind, purse[kind], ("gain", way)))
        self.assertGreater(sum(counts.values()), 120)
        self.assertGreater(len(counts), 5)
        self.assertNotIn(None, counts)

    def test_30_uses_and_more(self):
        for board in THIRTY:
            purse = alone(board, 0, least_gain(board, 0))
            self.assertEqual(len(uses_of(shortest_gain(board, 0))), 30)
            self.assertEqual(plain_gain_uses(board, purse, 30, 10 ** 6), 30)
        for board in MORE:
            purse = alone(board, 0, least_gain(board, 0))
            self.assertEqual(plain_gain_uses(board, purse, 30, 10 ** 6), "many")
            self.assertEqual(gain_from(board, 0, purse[0])[0], "gain")
            self.too_many(shortest_gain, board, 0)

    def test_gains_above_12_only(self):
        self.assertIsNone(plain_gain_uses(LATE, (12, 0), 99))
        self.assertIsInstance(plain_gain_uses(LATE, (13, 0), 99), int)
        for call in (least_gain, shortest_gain):
            self.too_many(call, LATE, 0)
        self.assertEqual(gain_from(LATE, 0, 12)[0], "closed")

    def test_amounts_of_12(self):
        for board in TWELVE:
            self.assertIsNone(plain_gain_uses(board, (11, 0), 99))
            self.assertEqual(least_gain(board, 0), 12)
            self.assertEqual(plain_gain_uses(board, (12, 0), 99), len(uses_of(shortest_gain(board, 0))))

    def test_offers_that_are_not_inner(self):
        # of the shortest gains of the kind 0 none uses the last offer
        self.assertEqual([least_gain(LEAK, kind) for kind in range(3)], [2, 2, None])
        self.assertEqual(shortest_gain(LEAK, 0), ((0, 1), (1, 1)))
        self.assertEqual(stair(LEAK, 0, 1), ((0, 2), (2, 0)))


class StairTest(unittest.TestCase):
    def test_example(self):
        answers = [stair(G, 0, 1), stair(D, 1, 0), stair((2, ((0, 1, 1, 1),)), 0, 1)]
        self.assertEqual(answers, [((0, 4), (1, 3), (2, 2), (5, 1), (6, 0)), ((0, 2), (3, 0)), None])

    def test_plain_search(self):
        found = {"none": 0, "empty": 0, "many": 0, "stairs": 0, "steps": 0}
        for board in boards(95, 200):
            for a in range(board[0]):
                for b in range(board[0]):
                    if a != b:
                        self.holds(board, a, b, found)
        self.assertGreater(min(found.values()), 8)
        self.assertGreater(found["stairs"], 100)

    def holds(self, board, a, b, found):
        if b not in plain_back_kinds(board, a):
            found["none"] += 1
            self.assertIsNone(stair(board, a, b))
            return
        if not may_gain(board, a):
            found["empty"] += 1
            self.assertEqual(stair(board, a, b), ())
            return
        tops = [gain_from(board, kind, 12)[0] for kind in (a, b)]
        if "closed" in tops:
            found["many"] += 1
            with self.assertRaises(TooMany):
                stair(board, a, b)
            return
        with Unchanged(self, board):
            steps = stair(board, a, b)
        self.assertEqual(steps, stair(board, a, b))
        found["stairs"] += 1
        found["steps"] += len(steps)
        self.assertEqual((steps[0], steps[-1]), ((0, least_gain(board, b)), (least_gain(board, a), 0)))
        self.assertEqual(stair(board, b, a), tuple(sorted((y, x) for x, y in steps)))
        for before, after in zip(steps, steps[1:]):
            self.assertTrue(before[0] < after[0] and before[1] > after[1])
            # less of one kind by one, and no more of the other one, is not enough
            for pair in [(after[0] - 1, before[1] - 1), (after[0], after[1] - 1)]:
                self.gains_not(board, a, b, pair)
        for pair in steps:
            self.assertIn(plain_pair(board, a, b, pair), ["many", "gain"])

    def gains_not(self, board, a, b, pair):
        if min(pair) >= 0:
            self.assertIn(plain_pair(board, a, b, pair), ["many", None], (board, a, b, pair))

    def test_all_pairs(self):
        for board in [G, D, TWICE, (2, ((0, 3, 1, 4), (1, 3, 0, 3))), (3, ((0, 2, 1, 3), (1, 3, 2, 4), (2, 3, 0, 2)))]:
            for a, b in [(0, 1), (1, 0)]:
                steps = stair(board, a, b)
                for x in range(10):
                    for y in range(10):
                        over = any(x >= step[0] and y >= step[1] for step in steps)
                        uses = plain_pair(board, a, b, (x, y))
                        self.assertTrue(uses == "many" or (uses == "gain") == over, (board, a, b, x, y))

    def test_edges(self):
        self.assertEqual(stair(ROUND, 0, 2), ())
        self.assertIsNone(stair(LEAK, 0, 2))
        self.assertEqual(stair(E, 0, 1), ())
        for a, b in [(0, 1), (1, 0)]:
            with self.assertRaises(TooMany):
                stair(LATE, a, b)
        self.assertIsNone(stair((3, LATE[1]), 0, 2))


def plain_pair(board, a, b, pair):
    """ "gain" or None for the purse with the pair of a and b, or "many" if too many purses are come to."""
    purse = tuple(pair[0] if kind == a else pair[1] if kind == b else 0 for kind in range(board[0]))
    uses = plain_gain_uses(board, purse, 40, 2500)
    return uses if uses in (None, "many") else "gain"


if __name__ == "__main__":
    unittest.main()
