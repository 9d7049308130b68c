import unittest

from plain import Unchanged, odd_values, replaced, seeded
from plain_boards import B, BOARDS, CHAIN, D, E, G, LEAK, TWICE, pairs, plain_is_cover, plain_leads_to
from plain_boards import plain_most_holds, plain_purses, plain_reach_holds, some_board, some_goal, some_purse, under
from smallchange.covers import cover, most, most_holds, reach, reach_holds
from smallchange.ways import walk

HUGE = 10 ** 30
SWAP = (2, ((0, 1, 1, 1), (1, 1, 0, 1)))


class ReachTest(unittest.TestCase):
    def test_example(self):
        self.assertEqual([reach(E, (7, 0), (0, 2))[0], reach(E, (7, 0), (2, 2))[0]], ['way', 'cover'])

    def test_goals_under_the_purse(self):
        for board, purse in pairs(51, 100):
            for goal in [purse, (0,) * board[0]]:
                self.assertTrue(plain_reach_holds(board, purse, goal, reach(board, purse, goal)))

    def test_boards_without_offers(self):
        self.assertEqual(reach((2, ()), (3, 4), (3, 4)), ("way", ()))
        self.assertEqual(reach((2, ()), (3, 4), (4, 3)), ("cover", ((3, 4),)))
        self.assertEqual(reach((1, ()), (0,), (1,)), ("cover", ((0,),)))

    def test_plain_search(self):
        rng = seeded(52)
        words = {"way": 0, "cover": 0}
        for board, purse in pairs(53, 1500):
            purses = plain_purses(board, purse, 300)
            for _ in range(3):
                goal = some_goal(rng, board[0], 12)
                with Unchanged(self, board, purse, goal):
                    result = reach(board, purse, goal)
                self.assertEqual(result, reach(board, purse, goal))
                self.assertTrue(plain_reach_holds(board, purse, goal, result), (board, purse, goal, result))
                self.assertIs(reach_holds(board, purse, goal, result), True)
                words[result[0]] += 1
                if purses is not None:
                    self.assertEqual(result[0] == "way", any(under(goal, item) for item in purses))
        self.assertGreater(min(words.values()), 1000)

    def test_great_goals(self):
        rng = seeded(54)
        ways = 0
        for board, purse in pairs(55, 1500):
            goal = tuple(rng.choice([0, rng.randint(0, 20), 10 ** 6]) for _ in purse)
            result = reach(board, purse, goal)
            self.assertIs(reach_holds(board, purse, goal, result), True)
            if result[0] == "way":
                ways += 1
                self.assertTrue(under(goal, walk(board, purse, result[1])))
            else:
                self.assertTrue(plain_is_cover(board, purse, result[1]))
        self.assertGreater(ways, 400)
        for board in [LEAK, TWICE]:
            self.assertEqual(reach(board, (2, 0, 0), (10 ** 6,) * 3)[0], "way")
            self.assertEqual(reach(board, (1, 1, 9), (10 ** 6,) * 3)[0], "way" if board == TWICE else "cover")

    def test_far_kinds(self):
        # what gains leads on over a kind that is of no use, and over a bad rate
        board = (4, ((0, 2, 1, 3), (1, 2, 0, 2), (1, 8, 2, 1), (2, 8, 3, 1)))
        for goal in [(0, 0, 0, 10 ** 6), (5, 5, 10 ** 6, 10 ** 6), (0, 0, 1, 0), (10 ** 6, 0, 0, 1)]:
            word, way = reach(board, (2, 0, 0, 0), goal)
            self.assertEqual(word, "way")
            self.assertTrue(under(goal, walk(board, (2, 0, 0, 0), way)))

    def test_holds_example(self):
        self.assertEqual([reach_holds(E, (7, 0), (0, 2), ('way', ((0, 2),))),
                          reach_holds(E, (7, 0), (2, 2), ('cover', ((7, 0), (6, 1), (3, 2))))], [True, False])

    def test_holds_for_ways(self):
        for way in [((0, 2),), ((0, 1), (0, 1)), ((((0, 1),), 2),), ((0, 1), (1, 1), (0, 2)), ((0, 2), (1, 1), (0, 1))]:
            self.assertIs(reach_holds(E, (7, 0), (0, 2), ("way", way)), True)
        for way in [(), ((0, 1),), ((0, 3),), ((0, 2), (1, 1)), ((1, 1),), ((0, 2), (2, 1)), ((0, 2), (1, 0)), [(0, 2)],
                    ([0, 2],), ((False, 2),), ((0, True), (0, True)), ((((0, 1),), True), (0, 1)), (((), 1), (0, 2)),
                    ((((((0, 1),), 1),), 2),), None, "way", ((0, 2), None), ((0, 2.5),), (((0, 2),),), ((-2, 2),)]:
            self.assertIs(reach_holds(E, (7, 0), (0, 2), ("way", way)), False, way)
        self.assertIs(reach_holds(E, (7, 0), (1, 2), ("way", ((0, 2),))), True)
        self.assertIs(reach_holds(E, (7, 0), (2, 2), ("way", ((0, 2),))), False)
        self.assertIs(reach_holds(E, (7, 0), (7, 0), ("way", ())), True)

    def test_holds_for_long_ways(self):
        self.assertIs(reach_holds(SWAP, (1, 0), (0, 1), ("way", ((0, 1), (1, 1)) * 4000 + ((0, 1),))), True)
        self.assertIs(reach_holds(SWAP, (1, 0), (0, 1), ("way", ((0, 1), (1, 1)) * 4000)), False)
        around = (((0, 1), (1, 1)) * 500, HUGE)
        self.assertIs(reach_holds(SWAP, (1, 0), (0, 1), ("way", (around, (0, 1)))), True)
        way = ((((0, 3), (1, 4)), HUGE), (0, HUGE // 2))
        self.assertIs(reach_holds(D, (5, 0), (10 ** 6, 10 ** 6), ("way", way)), False)
        self.assertIs(reach_holds(D, (6, 0), (10 ** 6, 10 ** 6), ("way", way)), True)
        self.assertIs(reach_holds(D, (6, 0), (0, 0), ("way", ((((0, 3), (1, 4)), HUGE + 1),))), False)

    def test_holds_for_covers(self):
        for general in [((7, 0), (4, 1), (1, 2)), ((1, 2), (1, 2), (7, 0), (4, 1), (0, 0))]:
            self.assertIs(reach_holds(E, (7, 0), (2, 2), ("cover", general)), True)
        for general in [((None, None),), ((7, 0), (4, 1), (2, 2)), ((7, 0), (4, 1)), (), [(7, 0), (4, 1), (1, 2)],
                        ((7, False), (4, 1), (1, 2)), ((7, 0), (4, True), (1, 2)), None]:
            self.assertIs(reach_holds(E, (7, 0), (2, 2), ("cover", general)), False)
        self.assertIs(reach_holds(E, (7, 0), (1, 2), ("cover", ((7, 0), (4, 1), (1, 2)))), False)

    def test_ways_of_other_boards(self):
        self.assertIs(reach_holds(D, (7, 0), (0, 13), ("way", ((0, 3), (1, 1), (0, 1)))), True)
        self.assertIs(reach_holds(E, (7, 0), (0, 2), ("way", ((3, 1),))), False)
        self.assertIs(reach_holds(E, (7, 0), (2, 2), ("cover", cover(B, (7, 0, 0)))), False)
        self.assertIs(reach_holds((2, ()), (7, 0), (7, 0), ("way", ((0, 1),))), False)

    def test_any_value(self):
        for board, purse, goal in [(E, (7, 0), (0, 2)), (E, (7, 0), (2, 2)), (D, (2, 0), (3, 3)), ((1, ()), (1,), (1,)),
                                   ((1, ()), (0,), (1,)), (G, (6, 0), (1, 1))]:
            values = list(odd_values()) + list(replaced(reach(board, purse, goal)))
            values += [("way",), ("cover",), ("way", (), ()), ("ways", ()), ["way", ()], ("way", ((0, 1),), 1)]
            for value in values:
                before = repr(value)
                expected = plain_reach_holds(board, purse, goal, value)
                self.assertIs(reach_holds(board, purse, goal, value), expected, value)
                self.assertEqual(repr(value), before)


class MostTest(unittest.TestCase):
    def test_example(self):
        self.assertEqual([most(E, (7, 0), 1)[:2], most(D, (0, 3), 0)[0],
                          most_holds(D, (0, 3), 1, ('endless', ((1, 1),), ((0, 1), (1, 1))))],
                         [('most', 2), 'endless', True])

    def test_boards_without_offers(self):
        self.assertEqual(most((2, ()), (3, 4), 1), ("most", 4, (), ((3, 4),)))
        self.assertEqual(most((1, ()), (0,), 0), ("most", 0, (), ((0,),)))

    def test_chain(self):
        word, number, way, general = most(CHAIN, (12, 0, 0), 2)
        self.assertEqual((word, number, walk(CHAIN, (12, 0, 0), way), len(general)), ("most", 768, (0, 0, 768), 637))

    def test_plain_search(self):
        words = {"most": 0, "endless": 0}
        for board, purse in pairs(56, 1500):
            purses = plain_purses(board, purse, 300)
            for kind in range(board[0]):
                with Unchanged(self, board, purse):
                    result = most(board, purse, kind)
                self.assertEqual(result, most(board, purse, kind))
                words[result[0]] += 1
                self.assertTrue(plain_most_holds(board, purse, kind, result), (board, purse, kind, result))
                self.assertIs(most_holds(board, purse, kind, result), True)
                if purses is not None:
                    self.assertEqual(result[:2], ("most", max(item[kind] for item in purses)))
        self.assertGreater(min(words.values()), 600)

    def test_endless_kinds(self):
        for board in BOARDS:
            for purse in [(12,) + (0,) * (board[0] - 1), (1,) * board[0]]:
                endless = [any(general[kind] is None for general in cover(board, purse)) for kind in range(board[0])]
                self.assertEqual([most(board, purse, kind)[0] == "endless" for kind in range(board[0])], endless)
        self.assertEqual(most(LEAK, (2, 0, 0), 2)[0], "endless")
        self.assertEqual(most(LEAK, (1, 1, 9), 2)[:2], ("most", 9))

    def test_most_beside_endless_kinds(self):
        # 4 of the kind 0 become endless, but not of the kind 0
        board = (3, ((0, 4, 1, 4), (1, 3, 2, 4), (2, 3, 1, 3)))
        for purse, number in [((9, 0, 0), 9), ((0, 3, 0), 0), ((0, 0, 12), 0)]:
            result = most(board, purse, 0)
            self.assertEqual(result[:2], ("most", number))
            self.assertTrue(plain_most_holds(board, purse, 0, result))

    def test_holds_for_the_most(self):
        general = cover(E, (7, 0))
        self.assertIs(most_holds(E, (7, 0), 1, ("most", 2, ((0, 2),), general)), True)
        self.assertIs(most_holds(E, (7, 0), 1, ("most", 2, ((0, 1), (1, 1), (0, 2)), general * 2)), True)
        self.assertIs(most_holds(E, (7, 0), 0, ("most", 7, (), general)), True)
        self.assertIs(most_holds((2, ()), (7, 1), 1, ("most", 1, (), ((10 ** 59, 1),))), True)
        way = ((0, 2),)
        for value in [("most", 1, ((0, 1),), general), ("most", 2, ((0, 1),), general), ("most", 2, (), general),
                      ("most", 3, ((0, 3),), general), ("most", 2, way, ((None, None),)), ("most", 2, way),
                      ("most", 2, way, ((7, 2),)), ("most", 2, way, general, ()), ["most", 2, way, general],
                      ("most", 2, [(0, 2)], general), ("most", 2, way, list(general)), ("most", "2", way, general),
                      ("most", None, way, general), ("endless", 2, way, general), ("most", 2, way, ())]:
            self.assertIs(most_holds(E, (7, 0), 1, value), False, value)
        self.assertIs(most_holds((2, ()), (1, 0), 0, ("most", 1, (), ((1, 0),))), True)
        self.assertIs(most_holds((2, ()), (1, 0), 0, ("most", True, (), ((1, 0),))), False)
        self.assertIs(most_holds((2, ()), (1, 0), 1, ("most", False, (), ((1, 0),))), False)
        self.assertIs(most_holds((2, ()), (1, 0), 1, ("most", 0, (), ((1, 0),))), True)
        self.assertIs(most_holds((2, ()), (1, 0), 1, ("most", 0, (), ((None, 0),))), True)
        self.assertIs(most_holds((2, ()), (1, 0), 0, ("most", 1, (), ((None, 0),))), False)

    def test_holds_for_endless_gain(self):
        for first, second in [(((1, 1),), ((0, 1), (1, 1))), ((), ((1, 1), (0, 1))), ((), ((((1, 1), (0, 1)), HUGE),)),
                              (((((1, 1), (0, 1)), HUGE),), ((1, 1), (0, 1))), ((), ((1, 1), (0, 1)) * 2000)]:
            self.assertIs(most_holds(D, (0, 3), 1, ("endless", first, second)), True)
        for first, second in [((), ()), ((), ((0, 1), (1, 1))), ((), ((1, 1),)), (((0, 1),), ((1, 1), (0, 1))),
                              ((), ((1, True), (0, 1))), ([], ((1, 1), (0, 1))), (None, None), ((), ((1, 1), (2, 1)))]:
            self.assertIs(most_holds(D, (0, 3), 1, ("endless", first, second)), False)
        # there is more of 0, but less of 1
        self.assertIs(most_holds(D, (0, 3), 0, ("endless", (), ((1, 1),))), False)
        self.assertIs(most_holds(D, (2, 0), 1, ("endless", (), ((0, 1),))), False)
        # it gains 1 only, and no 0
        self.assertIs(most_holds(D, (0, 3), 0, ("endless", (), ((1, 1), (0, 1)))), False)
        self.assertIs(most_holds(D, (0, 3), 0, ("endless", (), ((((1, 1), (0, 1)), 3), (1, 1)))), True)
        for value in [("endless", ()), ("endless", (), ((1, 1), (0, 1)), ()), ["endless", (), ((1, 1), (0, 1))],
                      ("most", (), ((1, 1), (0, 1)))]:
            self.assertIs(most_holds(D, (0, 3), 1, value), False)

    def test_any_value(self):
        for board, purse, kind in [(E, (7, 0), 1), (E, (1, 0), 0), (D, (2, 0), 0), (D, (0, 3), 1), ((1, ()), (1,), 0),
                                   ((2, ()), (1, 0), 1), (LEAK, (2, 0, 1), 2)]:
            for value in list(odd_values()) + list(replaced(most(board, purse, kind))) + [("most",), ("endless",)]:
                before = repr(value)
                expected = plain_most_holds(board, purse, kind, value)
                self.assertIs(most_holds(board, purse, kind, value), expected, value)
                self.assertEqual(repr(value), before)

    def test_somewhat_beyond_small_boards(self):
        rng = seeded(57)
        for _ in range(40):
            board = some_board(rng, 4, 14, 10)
            purse = some_purse(rng, 4, 15)
            for kind in range(4):
                self.assertIs(most_holds(board, purse, kind, most(board, purse, kind)), True)
            goal = (10 ** 6 + 1, 0, 3, 0)
            self.assertIs(reach_holds(board, purse, goal, reach(board, purse, goal)), True)

    def test_first_way_can_be_walked(self):
        board = (3, ((0, 5, 1, 3), (1, 2, 0, 4), (1, 7, 2, 1)))
        word, first, second = most(board, (6, 0, 0), 2)
        middle = plain_leads_to(board, (6, 0, 0), first)
        end = plain_leads_to(board, middle, second)
        self.assertTrue(word == "endless" and under(middle, end) and end[2] > middle[2])


if __name__ == "__main__":
    unittest.main()
