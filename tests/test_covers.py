import unittest

from plain import Unchanged, odd_values, replaced, seeded
from plain_boards import BOARDS, CHAIN, D, E, G, LEAK, highest, pairs, plain_is_cover, plain_leads_to, plain_purses
from plain_boards import some_board, some_purse, under
from smallchange.covers import cover, cover_holds, reach

def rank(general):
    return [(amount is None, amount or 0) for amount in general]


class CoverTest(unittest.TestCase):
    def test_examples(self):
        self.assertEqual([cover(E, (7, 0)), cover(D, (2, 0)), cover(D, (1, 2))],
                         [((1, 2), (4, 1), (7, 0)), ((None, None),), ((1, 2),)])

    def test_boards_without_offers(self):
        self.assertEqual(cover((1, ()), (0,)), ((0,),))
        self.assertEqual(cover((1, ()), (12,)), ((12,),))
        self.assertEqual(cover((3, ()), (5, 0, 7)), ((5, 0, 7),))

    def test_purses_of_zeros(self):
        for board in BOARDS:
            self.assertEqual(cover(board, (0,) * board[0]), ((0,) * board[0],))

    def test_order(self):
        # 0 can be kept whole, or all of it goes to endless gain
        board = (3, ((0, 4, 1, 4), (1, 3, 2, 4), (2, 3, 1, 3)))
        self.assertEqual(cover(board, (5, 0, 0)), ((1, None, None), (5, 0, 0)))
        self.assertEqual(cover(board, (8, 0, 0)), ((4, None, None), (8, 0, 0)))
        board = (3, ((0, 1, 1, 4), (1, 4, 0, 2), (2, 4, 0, 1)))
        self.assertEqual(cover(board, (0, 3, 7)), ((0, 3, 7), (None, None, 3)))
        self.assertEqual(cover(board, (0, 3, 8)), ((0, 3, 8), (None, None, 4)))

    def test_first_none(self):
        self.assertEqual(cover(LEAK, (1, 0, 5)), ((1, 0, 5),))
        self.assertEqual(cover(LEAK, (2, 0, 5)), ((None, None, None),))
        self.assertEqual(cover(G, (5, 0)), ((0, 3), (4, 1), (5, 0)))
        self.assertEqual(cover(G, (6, 0)), ((None, None),))

    def test_great_covers(self):
        # 64 of the last kind for each one of the first
        purses = {}
        for x in range(13):
            for y in range(8 * (12 - x) + 1):
                purses[x, y, 64 * (12 - x) - 8 * y] = True
        found = cover(CHAIN, (12, 0, 0))
        self.assertEqual(found, tuple(sorted(purses)))
        self.assertEqual(len(found), 637)
        self.assertIs(cover_holds(CHAIN, (12, 0, 0), found), True)
        self.assertIs(cover_holds(CHAIN, (12, 0, 0), found[::-1]), True)
        self.assertIs(cover_holds(CHAIN, (12, 0, 0), found[1:]), False)
        self.assertIs(cover_holds(CHAIN, (12, 0, 0), found[:300] + found[301:]), False)

    def test_plain_search(self):
        count = 0
        for board, purse in pairs(41, 3000):
            purses = plain_purses(board, purse, 400)
            if purses is not None:
                count += 1
                self.assertEqual(cover(board, purse), highest(purses))
        self.assertGreater(count, 1200)

    def test_least_covers(self):
        endless = 0
        for board, purse in pairs(42, 2500):
            with Unchanged(self, board, purse):
                found = cover(board, purse)
            self.assertEqual(found, cover(board, purse))
            self.assertTrue(plain_is_cover(board, purse, found), (board, purse, found))
            self.assertEqual(list(found), sorted(found, key=rank))
            for general in found:
                self.assertEqual([other for other in found if under(general, other)], [general])
                if None in general:
                    endless += 1
                    for more in (1, 37):
                        self.is_open_to(board, purse, tuple(more if one is None else one for one in general))
        self.assertGreater(endless, 500)

    def is_open_to(self, board, purse, goal):
        word, way = reach(board, purse, goal)
        self.assertEqual(word, "way")
        end = plain_leads_to(board, purse, way)
        self.assertIsNotNone(end)
        self.assertTrue(under(goal, end))

    def test_somewhat_beyond_small_boards(self):
        rng = seeded(43)
        for _ in range(60):
            board = some_board(rng, 4, 15, 10)
            purse = some_purse(rng, 4, 14)
            found = cover(board, purse)
            self.assertTrue(plain_is_cover(board, purse, found))
            self.assertIs(cover_holds(board, purse, found), True)
            purses = plain_purses(board, purse, 300)
            if purses is not None:
                self.assertEqual(found, highest(purses))


class CoverHoldsTest(unittest.TestCase):
    def agrees(self, board, purse, value):
        before = repr(value)
        expected = plain_is_cover(board, purse, value)
        self.assertIs(cover_holds(board, purse, value), expected, (board, purse, value))
        self.assertEqual(repr(value), before)
        return expected

    def test_example(self):
        self.assertEqual([cover_holds(D, (2, 0), ((2, None),)), cover_holds(D, (1, 2), ((0, 0), (1, 2))),
                          cover_holds(D, (1, 2), ((1, 3),))], [False, True, False])

    def test_least_covers_hold(self):
        for board, purse in pairs(44, 600):
            found = cover(board, purse)
            self.assertIs(cover_holds(board, purse, found), True)
            if len(found) <= 100:
                self.agrees(board, purse, found + found)
                self.agrees(board, purse, found[::-1] + ((0,) * board[0],))
                self.agrees(board, purse, found[1:])
                self.agrees(board, purse, found[:-1])

    def test_other_covers_hold(self):
        self.assertIs(cover_holds(E, (7, 0), ((None, None),)), True)
        self.assertIs(cover_holds(E, (7, 0), ((7, None),)), False)
        self.assertIs(cover_holds(E, (7, 0), ((7, 3),)), False)
        self.assertIs(cover_holds(E, (7, 0), ((1, 2), (4, 1), (2, 1), (7, 0), (7, 0), (0, 0))), True)
        self.assertIs(cover_holds(E, (7, 0), ((7, 0), (4, 1), (2, 2))), True)
        self.assertIs(cover_holds(E, (7, 0), ((7, 0), (4, 1), (1, 2), (7, 1))), False)
        self.assertIs(cover_holds(E, (7, 0), ((7, 0), (4, 1), (1, 2), (6, 1), (3, 2), (5, 1), (2, 2))), False)
        self.assertIs(cover_holds((2, ()), (7, 0), ((7, 0),)), True)
        self.assertIs(cover_holds((2, ()), (7, 0), ((7, 10 ** 60 - 1),)), True)
        self.assertIs(cover_holds((2, ((0, 1, 1, 0),)), (7, 0), ((None, 0),)), True)
        self.assertIs(cover_holds((2, ((0, 1, 1, 1),)), (7, 0), ((None, 0),)), False)

    def test_none_lies_under_none_only(self):
        board = (2, ((0, 1, 1, 1),))
        self.assertIs(cover_holds(board, (7, 0), ((None, 10 ** 50), (10 ** 50, None))), False)
        self.assertIs(cover_holds(board, (7, 0), ((None, None), (10 ** 50, None))), True)
        self.assertIs(cover_holds((1, ()), (7,), ((None,),)), True)
        self.assertIs(cover_holds((1, ()), (7,), ((6,),)), False)

    def test_wrong_values(self):
        for value in [(), ((),), ((7,),), ((7, 0, 0),), ((7, True),), ((7, False), (4, 1), (1, 2)),
                      [(7, 0), (4, 1), (1, 2)], ([7, 0], (4, 1), (1, 2)), ((7, -1), (7, 0), (4, 1), (1, 2)),
                      ((7, 0), (4, 1), (1, 2), None),
                      ((7, "0"), (4, 1), (1, 2)), (7, 0), None, "cover", {}, ((None, None), ()), ((None, (1,)),),
                      ((None, None), (None, None, None)), ((7, 0), (4, 1), (1, 2), (0, False))]:
            self.assertIs(cover_holds(E, (7, 0), value), False, value)

    def test_any_value(self):
        true = 0
        for board, purse in [(E, (7, 0)), (D, (2, 0)), (D, (1, 2)), (G, (5, 0)), ((1, ()), (1,)), (LEAK, (2, 0, 1)),
                             ((3, ((0, 4, 1, 4), (1, 3, 2, 4), (2, 3, 1, 3))), (5, 0, 0))]:
            for value in list(odd_values()) + list(replaced(cover(board, purse))):
                true += self.agrees(board, purse, value)
        self.assertGreater(true, 10)

    def test_random_values(self):
        rng = seeded(45)
        true = 0
        for _ in range(4000):
            board = some_board(rng, rng.randint(2, 3), 4, 4)
            purse = some_purse(rng, board[0], 4)
            amounts = [0, 1, 2, 3, 4, 5, 7, None, None]
            value = tuple(tuple(rng.choice(amounts) for _ in purse) for _ in range(rng.randint(0, 6)))
            true += self.agrees(board, purse, value)
        self.assertGreater(true, 400)

    def test_long_values(self):
        long = tuple((10 ** 59 + x, 10 ** 59 - x) for x in range(1300))
        board = (2, ((0, 1, 1, 1), (0, 7, 1, 6), (1, 8, 0, 0)))
        self.assertIs(cover_holds(board, (5, 5), long), False)
        self.assertIs(cover_holds(board, (5, 5), long + ((0, 2 * 10 ** 59),)), False)
        self.assertIs(cover_holds((2, board[1][1:]), (5, 5), long + ((10 ** 59, 2 * 10 ** 59),)), False)
        self.assertIs(cover_holds((2, board[1][2:]), (5, 5), long), True)
        board = (2, ((0, 1, 1, 1),))
        long = tuple((x, 1300 - x) for x in range(1301))
        self.assertIs(cover_holds(board, (5, 5), long), True)
        self.assertIs(cover_holds(board, (5, 5), long[:7] + long[8:]), False)


if __name__ == "__main__":
    unittest.main()
