import unittest

from plain import Unchanged, seeded
from plain_boards import BOARDS, D, E, G, pairs, plain_levels, plain_walk, some_board, some_goal, some_purse
from plain_boards import under, uses_of
from smallchange.covers import fewest_uses, reach, shortest_way
from smallchange.errors import TooMany

LINE = (3, ((0, 1, 1, 2), (1, 1, 2, 1)))
SLOW = (2, ((0, 8, 1, 8), (1, 7, 0, 8)))


def plain_fewest(board, purse, goal, count, limit=20000):
    """The least number of uses by trying all; None if all fail, "many" if count or limit are not enough."""
    levels = plain_levels(board, purse, count, limit)
    for uses, level in enumerate(levels):
        if any(under(goal, item) for item in level):
            return uses
    return None if not levels[-1] else "many"


class ShortestTest(unittest.TestCase):
    def too_many(self, board, purse, goal):
        for call in (fewest_uses, shortest_way):
            with self.assertRaises(TooMany):
                call(board, purse, goal)

    def holds(self, board, purse, goal, count):
        with Unchanged(self, board, purse, goal):
            self.assertEqual(fewest_uses(board, purse, goal), count)
            way = shortest_way(board, purse, goal)
        self.assertEqual(way, shortest_way(board, purse, goal))
        self.assertIs(type(way), tuple)
        self.assertEqual(len(uses_of(way)), count)
        stuck, end = plain_walk(board, purse, way)
        self.assertTrue(stuck is None and under(goal, end))

    def test_example(self):
        answers = [fewest_uses(E, (7, 0), (0, 2)), fewest_uses(E, (7, 0), (2, 2)), fewest_uses(E, (7, 0), (7, 0)),
                   fewest_uses(D, (2, 0), (4, 0))]
        self.assertEqual(answers, [2, None, 0, 7])
        self.holds(E, (7, 0), (0, 2), 2)
        self.holds(D, (2, 0), (4, 0), 7)
        self.assertIsNone(shortest_way(E, (7, 0), (2, 2)))

    def test_goals_under_the_purse(self):
        for board, purse in pairs(61, 200):
            for goal in [purse, (0,) * board[0], tuple(amount // 2 for amount in purse)]:
                self.assertEqual(fewest_uses(board, purse, goal), 0)
                self.assertEqual(shortest_way(board, purse, goal), ())

    def test_boards_without_offers(self):
        self.assertIsNone(fewest_uses((1, ()), (3,), (4,)))
        self.assertIsNone(shortest_way((3, ()), (3, 0, 0), (0, 1, 0)))
        self.assertEqual(shortest_way((1, ()), (3,), (3,)), ())

    def test_purses_of_zeros(self):
        for board in BOARDS:
            self.assertIsNone(fewest_uses(board, (0,) * board[0], (1,) + (0,) * (board[0] - 1)))

    def test_30_uses_and_more(self):
        self.holds(LINE, (12, 0, 0), (0, 0, 20), 30)
        self.holds(LINE, (12, 0, 0), (2, 0, 20), 30)
        self.holds(LINE, (12, 0, 0), (2, 1, 19), 29)
        self.too_many(LINE, (12, 0, 0), (0, 1, 20))
        self.too_many(LINE, (12, 0, 0), (0, 4, 20))
        self.assertIsNone(fewest_uses(LINE, (12, 0, 0), (0, 5, 20)))
        self.assertIsNone(shortest_way(LINE, (12, 0, 0), (3, 0, 20)))

    def test_endless_boards(self):
        counts = {}
        for board, purse in [(SLOW, (8, 0)), (G, (6, 0)), (G, (12, 0)), (D, (2, 0)), (D, (0, 12))]:
            for goal in [(20, 20), (20, 0), (0, 20), (12, 0), (0, 14), (10, 5), (9, 1), (3, 6), (0, 18), (14, 3)]:
                expected = plain_fewest(board, purse, goal, 30)
                counts[expected] = True
                if expected == "many":
                    self.too_many(board, purse, goal)
                else:
                    self.holds(board, purse, goal, expected)
        self.assertNotIn(None, counts)
        self.assertIn("many", counts)
        self.assertGreater(len(counts), 8)

    def test_plain_search(self):
        rng = seeded(62)
        counts = {}
        for board, purse in pairs(63, 1500):
            goal = some_goal(rng, board[0], rng.choice([6, 20]))
            expected = plain_fewest(board, purse, goal, 30, 3000)
            if expected == "many":
                continue
            counts[expected] = counts.get(expected, 0) + 1
            if expected is None:
                self.assertIsNone(fewest_uses(board, purse, goal))
                self.assertIsNone(shortest_way(board, purse, goal))
            else:
                self.holds(board, purse, goal, expected)
        self.assertGreater(counts[None], 300)
        self.assertGreater(sum(count for uses, count in counts.items() if uses is not None and uses > 4), 70)

    def test_plain_search_of_many_uses(self):
        rng = seeded(64)
        found = {"few": 0, "most": 0, "many": 0}
        for _ in range(1500):
            board = some_board(rng, 2, 4)
            purse = some_purse(rng, 2)
            goal = tuple(rng.randint(0, 20) for _ in purse)
            expected = plain_fewest(board, purse, goal, 30, 10 ** 5)
            if expected == "many":
                if reach(board, purse, goal)[0] == "way":
                    found["many"] += 1
                    self.too_many(board, purse, goal)
                else:
                    self.assertIsNone(fewest_uses(board, purse, goal))
            elif expected is None:
                self.assertIsNone(fewest_uses(board, purse, goal))
            else:
                found["few" if expected < 12 else "most"] += 1
                self.holds(board, purse, goal, expected)
        self.assertGreater(found["many"], 20)
        self.assertGreater(found["most"], 50)

    def test_none_or_too_many_just_where_there_is_a_way(self):
        rng = seeded(65)
        found = {"way": 0, "cover": 0}
        for board, purse in pairs(66, 500):
            goal = some_goal(rng, board[0])
            word = reach(board, purse, goal)[0]
            found[word] += 1
            if word == "cover":
                self.assertIsNone(fewest_uses(board, purse, goal))
            else:
                try:
                    self.assertIsInstance(fewest_uses(board, purse, goal), int)
                except TooMany:
                    self.too_many(board, purse, goal)
        self.assertGreater(min(found.values()), 100)

    def test_somewhat_beyond_small_boards(self):
        rng = seeded(67)
        for _ in range(40):
            board = some_board(rng, 4, 13, 9)
            purse = some_purse(rng, 4, 13)
            goal = some_goal(rng, 4, 22)
            expected = plain_fewest(board, purse, goal, 4, 5000)
            if expected is None or expected == "many":
                continue
            self.holds(board, purse, goal, expected)


if __name__ == "__main__":
    unittest.main()
