import unittest

from plain import Unchanged, seeded
from plain_boards import B, D, G, plain_walk, some_board, some_purse, some_way, uses_of
from smallchange.errors import Stuck
from smallchange.ways import change_of, end_of, is_way, need_of, walk

HUGE = 10 ** 30
SWAP = (2, ((0, 1, 1, 1), (1, 1, 0, 1)))


class ExamplesTest(unittest.TestCase):
    def test_runs(self):
        way = ((0, 2), (3, 1), (2, 1))
        self.assertEqual([walk(B, (7, 0, 0), way), need_of(B, way), change_of(B, way)],
                         [(2, 0, 2), (6, 0, 0), (-5, 0, 2)])

    def test_round(self):
        self.assertEqual(walk(D, (2, 0), ((((0, 1), (1, 1)), 1000), (0, 1))), (0, 1004))

    def test_stuck(self):
        with self.assertRaises(Stuck) as caught:
            walk(D, (3, 0), ((0, 1), (1, 2)))
        self.assertEqual(caught.exception.index, 1)


class WaysTest(unittest.TestCase):
    def stuck_at(self, board, purse, way):
        with self.assertRaises(Stuck) as caught:
            walk(board, purse, way)
        return caught.exception.index

    def test_empty_way(self):
        for board, purse in [(D, (0, 0)), (D, (3, 5)), ((1, ()), (0,)), ((4, ()), (1, 2, 3, 10 ** 6))]:
            self.assertEqual(walk(board, purse, ()), purse)
            self.assertEqual(need_of(board, ()), (0,) * board[0])
            self.assertEqual(change_of(board, ()), (0,) * board[0])

    def test_purse_of_zeros(self):
        self.assertEqual(self.stuck_at(D, (0, 0), ((0, 1),)), 0)
        self.assertEqual(self.stuck_at(D, (0, 0), ((((1, 1), (0, 1)), 7),)), 0)

    def test_run_takes_just_what_there_is(self):
        self.assertEqual(walk(D, (6, 0), ((0, 3),)), (0, 12))
        self.assertEqual(self.stuck_at(D, (5, 0), ((0, 3),)), 0)
        self.assertEqual(walk(D, (2 * HUGE, 1), ((0, HUGE),)), (0, 4 * HUGE + 1))
        self.assertEqual(self.stuck_at(D, (2 * HUGE - 1, 1), ((0, HUGE),)), 0)
        self.assertEqual((need_of(D, ((0, HUGE),)), change_of(D, ((0, HUGE),))),
                         ((2 * HUGE, 0), (-2 * HUGE, 4 * HUGE)))

    def test_offers_that_give_nothing(self):
        board = (2, ((0, 3, 1, 0),))
        self.assertEqual(walk(board, (3 * HUGE, 4), ((0, HUGE),)), (0, 4))
        self.assertEqual((need_of(board, ((0, 2),)), change_of(board, ((0, 2),))), ((6, 0), (-6, 0)))

    def test_round_that_gains_fails_at_its_first_turn_only(self):
        way = ((((0, 1), (1, 1)), HUGE),)
        self.assertEqual((need_of(D, way), change_of(D, way)), ((2, 0), (0, HUGE)))
        self.assertEqual(walk(D, (2, 0), way), (2, HUGE))
        self.assertEqual(self.stuck_at(D, (1, 9), way), 0)

    def test_round_that_loses_fails_at_its_last_turn(self):
        # a turn asks for 5 and takes 1 less than it gives back
        way = ((((0, 1), (1, 1)), HUGE),)
        self.assertEqual((need_of(G, way), change_of(G, way)), ((HUGE + 4, 0), (-HUGE, HUGE)))
        self.assertEqual(walk(G, (HUGE + 4, 0), way), (4, HUGE))
        self.assertEqual(self.stuck_at(G, (HUGE + 3, 5), way), 0)
        self.assertEqual(self.stuck_at(G, (HUGE + 8, 0), ((0, 1),) + way), 1)
        self.assertEqual(walk(G, (HUGE + 9, 0), ((0, 1),) + way), (4, HUGE + 3))

    def test_round_that_comes_back(self):
        way = ((((0, 5), (1, 5)), HUGE), (((1, 3), (0, 3)), HUGE))
        self.assertEqual((need_of(SWAP, way), change_of(SWAP, way)), ((5, 3), (0, 0)))
        self.assertEqual(walk(SWAP, (5, 0), way[:1]), (5, 0))
        self.assertEqual(self.stuck_at(SWAP, (5, 0), way), 1)
        self.assertEqual(need_of(SWAP, way[1:]), (0, 3))
        self.assertEqual(walk(SWAP, (5, 3), way), (5, 3))

    def test_round_that_loses_one_kind_and_gains_another(self):
        board = (3, ((0, 1, 1, 2), (1, 1, 2, 3)))
        way = ((((1, 3), (0, 1)), 10),)
        # the first turn needs 3 of kind 1, the last one 3 and what 9 turns have lost of it
        self.assertEqual((need_of(board, way), change_of(board, way)), ((10, 12, 0), (-10, -10, 90)))
        self.assertEqual(walk(board, (10, 12, 0), way), (0, 2, 90))
        self.assertEqual(self.stuck_at(board, (10, 11, 0), way), 0)
        self.assertEqual(self.stuck_at(board, (9, 12, 0), way), 0)

    def test_turns_of_rounds_are_no_steps(self):
        way = ((0, 1), (((1, 1), (0, 1)), 3), (1, 1), (((0, 1),), 2), (1, 9))
        self.assertEqual(walk(D, (2, 0), way[:3]), (2, 4))
        self.assertEqual(self.stuck_at(D, (2, 0), way), 3)
        self.assertEqual(self.stuck_at(D, (4, 0), way), 4)
        self.assertEqual(self.stuck_at(D, (1, 0), way), 0)

    def test_200_runs(self):
        runs = ((0, HUGE), (1, HUGE)) * 100
        self.assertEqual(walk(SWAP, (HUGE, 0), runs), (HUGE, 0))
        self.assertEqual((need_of(SWAP, runs), change_of(SWAP, runs)), ((HUGE, 0), (0, 0)))
        around = ((runs, HUGE),)
        self.assertEqual((need_of(SWAP, around), change_of(SWAP, around)), ((HUGE, 0), (0, 0)))
        self.assertEqual(walk(SWAP, (HUGE, 7), around), (HUGE, 7))
        self.assertEqual(self.stuck_at(SWAP, (HUGE - 1, 7), runs[1:]), 0)
        self.assertEqual(self.stuck_at(SWAP, (HUGE - 1, HUGE), ((0, HUGE - 1),) + runs[:199]), 1)
        gain = ((((0, 3), (1, 4)) * 100, HUGE),)
        self.assertEqual((need_of(D, gain), change_of(D, gain)), ((6, 0), (200 * HUGE, 0)))
        lose = ((((0, 1), (1, 1)) * 100, HUGE),)
        self.assertEqual((need_of(G, lose), change_of(G, lose)), ((100 * HUGE + 4, 0), (-100 * HUGE, 100 * HUGE)))

    def test_more_runs(self):
        way = (((0, 1), (1, 1)) * 3000)
        self.assertEqual((walk(D, (2, 0), way), need_of(D, way), change_of(D, way)), ((2, 3000), (2, 0), (0, 3000)))

    def test_amounts_of_any_size(self):
        purse = (10 ** 400, 0)
        self.assertEqual(walk(D, purse, ((0, HUGE), (1, HUGE))), (10 ** 400, HUGE))
        self.assertEqual(walk(D, walk(D, purse, ((0, 1),)), ((1, 1),)), (10 ** 400, 1))

    def test_against_single_uses(self):
        rng = seeded(11)
        stuck = 0
        for _ in range(4000):
            board = some_board(rng, rng.randint(2, 4), 8)
            way = some_way(rng, board)
            purse = tuple(rng.randint(0, 60) for _ in range(board[0]))
            place, end = plain_walk(board, purse, way)
            with Unchanged(self, board, purse, way):
                if place is None:
                    self.assertEqual(walk(board, purse, way), end)
                    self.assertEqual(change_of(board, way), tuple(end[kind] - purse[kind] for kind in range(board[0])))
                else:
                    stuck += 1
                    self.assertEqual(self.stuck_at(board, purse, way), place)
        self.assertTrue(500 < stuck < 3500)

    def test_need_is_the_least_purse(self):
        rng = seeded(12)
        for _ in range(1500):
            board = some_board(rng, rng.randint(2, 4), 8)
            way = some_way(rng, board)
            need = need_of(board, way)
            change = change_of(board, way)
            self.assertEqual((type(need), type(change), len(need), len(change)), (tuple, tuple, board[0], board[0]))
            end = plain_walk(board, need, way)
            self.assertEqual(end, (None, tuple(need[kind] + change[kind] for kind in range(board[0]))))
            for kind in range(board[0]):
                if need[kind] > 0:
                    less = need[:kind] + (need[kind] - 1,) + need[kind + 1:]
                    less = tuple(amount + (0 if at == kind else 1000) for at, amount in enumerate(less))
                    self.assertIsNotNone(plain_walk(board, less, way)[0])

    def test_uses_of_the_plain_walk(self):
        self.assertEqual(uses_of(((0, 2), (((1, 1), (0, 2)), 2))),
                         [(0, 0), (0, 0), (1, 1), (1, 0), (1, 0), (1, 1), (1, 0), (1, 0)])


class AnyWayTest(unittest.TestCase):
    """What the functions that judge ways take for a way."""

    def test_ways(self):
        for value in [(), ((0, 1),), ((1, HUGE), (0, 1)), ((((0, 1),), HUGE),), ((((0, 1), (1, 2)), 1), (1, 1)),
                      ((0, 1),) * 2000]:
            self.assertIs(is_way(D, value), True)

    def test_no_ways(self):
        for value in [None, 0, "way", [], [(0, 1)], {}, ((0, 0),), ((0, -1),), ((0, HUGE + 1),), ((2, 1),), ((-1, 1),),
                      ((0, True),), ((False, 1),), ([0, 1],), ((0,),), ((0, 1, 1),), (0, 1), ((0, None),), ((None, 1),),
                      (((), 1),), ((((0, 1),), 0),), ((((0, 1),), True),), ((((0, 1),), HUGE + 1),), (((0, 1), 1),),
                      (([(0, 1)], 1),), ((([0, 1],), 1),), ((((2, 1),), 1),), (((((((0, 1),), 1),), 1),), 1),
                      ((((((0, 1),), 2),), 1),), (("0", 1),), ((0, "1"),), ((0, 1), None), (((0, 1),),)]:
            self.assertIs(is_way(D, value), False, value)
            self.assertIsNone(end_of(D, (100, 100), value))

    def test_ends(self):
        self.assertEqual(end_of(D, (2, 0), ((0, 1),)), (0, 4))
        self.assertIsNone(end_of(D, (1, 0), ((0, 1),)))


class RepeatTest(unittest.TestCase):
    def test_equal_calls(self):
        rng = seeded(13)
        for _ in range(100):
            board = some_board(rng)
            way = some_way(rng, board)
            purse = some_purse(rng, 3)
            self.assertEqual(need_of(board, way), need_of(board, way))
            self.assertEqual(end_of(board, purse, way), end_of(board, purse, way))


if __name__ == "__main__":
    unittest.main()
