import unittest
from unittest import mock

from plain import Unchanged, is_integer, odd_values, plain_desk, plain_gives, plain_takes, plain_values, replaced
from plain import seeded, some_desk
from smallchange.boards import board_error
from smallchange.desks import all_rule, board_of, desk_error, gives, needed_uses, takes, use_rule
from smallchange.errors import TooGreat, TooLong, TooMany
from smallchange.rules import rule_error, value_of
from smallchange.splits import star_rule

SAMPLE = (0, 1, 2, 3, "down", 1, 1, None)
WORDS = ("from", "to", "num", "den", "how", "least", "step", "most")


def plain_error(value):
    """The first wrong item of a desk, by one test for each item."""
    if type(value) is not tuple or len(value) != 8:
        return "desk"
    a, b, num, den, how, least, step, most = value
    right = [is_integer(a) and a in range(4), is_integer(b) and b in range(4) and b != a,
             is_integer(num) and num in range(31), is_integer(den) and den in range(1, 31),
             type(how) is str and how in ["down", "up", "near"], is_integer(least) and least in range(1, 31),
             is_integer(step) and step in range(1, 31)]
    if False in right:
        return WORDS[right.index(False)]
    if most is None or is_integer(most) and most in range(least, 1001):
        return None
    return "most"


def changed(**items):
    """The sample desk with the named items changed."""
    desk = list(SAMPLE)
    for word, item in items.items():
        desk[WORDS.index(word.rstrip("_"))] = item
    return tuple(desk)


class DeskErrorTest(unittest.TestCase):
    def test_example(self):
        answers = [desk_error((0, 1, 2, 3, "down", 1, 1, None)), desk_error((0, 0, 2, 3, "down", 1, 1, None)),
                   desk_error((0, 1, 2, 3, "half", 1, 1, 0))]
        self.assertEqual(answers, [None, 'to', 'how'])

    def test_desks(self):
        for desk in [SAMPLE, changed(num=0), changed(num=30, den=30), changed(how="up"), changed(how="near"),
                     changed(least=30, step=30), changed(most=1), changed(least=30, most=30), changed(most=1000),
                     changed(from_=3, to=0), changed(to=3)]:
            self.assertIsNone(desk_error(desk), desk)

    def test_each_item(self):
        wrong = {
            "from": [4, -1, True, None, "0", (0,)], "to": [4, -1, True, None, 0, [1]],
            "num": [-1, 31, True, None, "2"], "den": [0, 31, True, None, -1],
            "how": ["Down", "", None, 0, ("down",), ["down"], "nearly", b"up"],
            "least": [0, 31, True, None], "step": [0, 31, True, None], "most": [0, 1001, True, False, "1", -1],
        }
        for word, items in wrong.items():
            for item in items:
                self.assertEqual(desk_error(changed(**{word: item})), word, (word, item))
        self.assertEqual(desk_error(changed(least=9, most=8)), "most")
        self.assertEqual(desk_error(changed(from_=1)), "to")

    def test_first_item_is_told(self):
        desk = [None, None, None, None, None, None, None, 0]
        good = (0, 1, 2, 3, "down", 1, 1, None)
        for at in range(8):
            self.assertEqual(desk_error(tuple(desk)), WORDS[at])
            desk[at] = good[at]
        self.assertIsNone(desk_error(tuple(desk)))

    def test_form(self):
        for value in [None, (), list(SAMPLE), SAMPLE[:7], SAMPLE + (None,), "a" * 8, {}, 8]:
            self.assertEqual(desk_error(value), "desk")

    def test_any_value(self):
        for value in list(odd_values()) + list(replaced(SAMPLE)) + list(replaced(changed(least=3, most=9))):
            self.assertEqual(desk_error(value), plain_error(value))


class TakesAndGivesTest(unittest.TestCase):
    def test_example(self):
        answers = [gives((0, 1, 2, 3, "down", 1, 1, None), 7), gives((0, 1, 1, 2, "near", 3, 1, None), 5),
                   takes((0, 1, 1, 2, "up", 3, 2, 8), 3), gives((0, 1, 1, 2, "up", 3, 2, 8), 10)]
        self.assertEqual(answers, [4, 3, False, None])

    def test_plain_count(self):
        rng = seeded(31)
        for _ in range(400):
            desk = some_desk(rng)
            with Unchanged(self, desk):
                for x in range(60):
                    self.assertIs(takes(desk, x), plain_takes(desk, x))
                    self.assertEqual(gives(desk, x), plain_gives(desk, x) if plain_takes(desk, x) else None)

    def test_bounds(self):
        desk = (0, 1, 1, 1, "down", 5, 3, 12)
        self.assertEqual([x for x in range(30) if takes(desk, x)], [6, 9, 12])
        self.assertFalse(takes(desk, 0))
        self.assertIsNone(gives(desk, 0))
        self.assertEqual([x for x in range(9) if takes((0, 1, 1, 1, "up", 5, 4, 7), x)], [])
        self.assertEqual([x for x in range(2000) if takes((0, 1, 1, 1, "up", 30, 30, 1000), x)], list(range(30, 991, 30)))

    def test_each_rounding(self):
        for how, told in [("down", [0, 0, 0, 0, 1]), ("up", [0, 1, 1, 1, 1]), ("near", [0, 0, 1, 1, 1])]:
            desk = (0, 1, 1, 4, how, 1, 1, None)
            self.assertEqual([gives(desk, x) or 0 for x in range(5)], told)
        self.assertEqual([gives((0, 1, 3, 2, "near", 1, 1, None), x) for x in (1, 2, 3)], [2, 3, 5])
        self.assertEqual(gives((0, 1, 0, 7, "up", 1, 1, None), 9), 0)

    def test_great_amounts(self):
        x = 10 ** 30
        self.assertEqual(gives(SAMPLE, x), 2 * x // 3)
        self.assertEqual(gives(changed(how="up"), x), 2 * x // 3 + 1)
        self.assertEqual(gives(changed(how="near"), x), 2 * x // 3 + 1)
        self.assertTrue(takes(changed(step=2), x))
        self.assertFalse(takes(changed(step=3), x))
        self.assertFalse(takes(changed(most=1000), x))


class UsesTest(unittest.TestCase):
    def test_example(self):
        answers = [needed_uses((0, 1, 2, 3, "down", 1, 1, None)), needed_uses((0, 1, 1, 2, "up", 3, 1, None)),
                   use_rule((0, 1, 2, 3, "down", 1, 1, None)), all_rule((0, 1, 1, 2, "up", 3, 1, None))]
        self.assertEqual(answers, [((2, 1), (3, 2)), ((3, 2), (5, 3)), ((0, 0, 1), 3, 2), ((0, 0, 0, 2, 2, 3), 3, 2)])

    def test_plain_count(self):
        rng = seeded(32)
        for _ in range(500):
            desk = some_desk(rng)
            single, many, needed = plain_desk(desk, 130)
            with Unchanged(self, desk):
                for rule, values in [(use_rule(desk), single), (all_rule(desk), many)]:
                    self.assertIsNone(rule_error(rule), desk)
                    self.assertEqual(plain_values(rule, 130), values, desk)
                self.assertEqual(needed_uses(desk), needed, desk)

    def test_great_rates_and_steps(self):
        rng = seeded(33)
        for _ in range(25):
            desk = some_desk(rng, 30, 30)
            single, many, needed = plain_desk(desk, 500)
            for rule, values in [(use_rule(desk), single), (all_rule(desk), many)]:
                self.assertIsNone(rule_error(rule), desk)
                self.assertEqual(plain_values(rule, 500), values, desk)
            self.assertEqual(tuple(use for use in needed_uses(desk) if use[0] < 500), needed, desk)

    def test_long_tables(self):
        desk = (0, 1, 29, 29, "down", 30, 30, None)
        self.assertEqual(use_rule(desk), ((0,) * 30, 30, 30))
        desk = (0, 1, 30, 29, "down", 30, 30, None)
        rule = use_rule(desk)
        self.assertEqual((len(rule[0]), rule[1], rule[2]), (870, 870, 900))
        self.assertIsNone(rule_error(rule))
        for x in (869, 870, 899, 900, 10 ** 29, 10 ** 60 - 1):
            self.assertEqual(value_of(rule, x), 30 * (x - x % 30) // 29)

    def test_most_of_a_thousand(self):
        desk = (0, 1, 7, 11, "near", 9, 1, 1000)
        rule = use_rule(desk)
        self.assertEqual(rule[1:], (1, 0))
        self.assertEqual(len(rule[0]), 1000)
        self.assertEqual([value_of(rule, x) for x in (8, 9, 999, 1000, 10 ** 60 - 1)], [0, 6, 636, 636, 636])
        single, many, needed = plain_desk(desk, 1500)
        self.assertEqual(plain_values(rule, 1500), single)
        self.assertEqual(plain_values(all_rule(desk), 1500), many)
        self.assertIsNone(rule_error(all_rule(desk)))
        self.assertEqual(needed_uses(desk), needed)

    def test_a_desk_that_takes_nothing(self):
        desk = (0, 1, 5, 1, "up", 5, 4, 7)
        self.assertEqual(needed_uses(desk), ())
        self.assertEqual(use_rule(desk), ((0,), 1, 0))
        self.assertEqual(all_rule(desk), ((0,), 1, 0))

    def test_a_desk_that_gives_nothing(self):
        for how in ("down", "up", "near"):
            for most in (None, 20):
                desk = (0, 1, 0, 3, how, 2, 2, most)
                self.assertEqual(needed_uses(desk), ())
                self.assertEqual(use_rule(desk), ((0,), 1, 0))
                self.assertEqual(all_rule(desk), ((0,), 1, 0))

    def test_lesser_uses_may_take_less(self):
        # 2 give as much as 1, so they are not needed, and 3 as much as three times 1
        self.assertEqual(needed_uses((0, 1, 1, 2, "up", 1, 1, None)), ((1, 1),))
        self.assertEqual(all_rule((0, 1, 1, 2, "up", 1, 1, None)), ((0,), 1, 1))

    def test_all_is_the_star_of_one(self):
        rng = seeded(34)
        for _ in range(200):
            desk = some_desk(rng)
            self.assertEqual(all_rule(desk), star_rule(use_rule(desk)), desk)

    def test_numbers_are_those_of_the_tables(self):
        rng = seeded(36)
        for number in range(300):
            desk = some_desk(rng, 30, 30) if number % 3 == 0 else some_desk(rng)
            for call in (use_rule, all_rule):
                count = len(call(desk)[0])
                with mock.patch("smallchange.rules.MAX_TOLD", count - 1):
                    with self.assertRaises(TooLong) as caught:
                        call(desk)
                    self.assertEqual(caught.exception.number, count)
                with mock.patch("smallchange.rules.MAX_TOLD", count):
                    self.assertEqual(len(call(desk)[0]), count)

    def test_uses_are_uses(self):
        for desk in [(0, 1, 29, 30, "down", 17, 1, None), (0, 1, 29, 30, "near", 17, 13, 900)]:
            for x, y in needed_uses(desk):
                self.assertEqual(gives(desk, x), y)


class BoardOfTest(unittest.TestCase):
    def test_example(self):
        board = board_of(2, ((0, 1, 2, 3, "down", 1, 1, None), (1, 0, 1, 2, "up", 3, 1, None)))
        self.assertEqual(board, (2, ((0, 2, 1, 1), (0, 3, 1, 2), (1, 3, 0, 2), (1, 5, 0, 3))))

    def test_boards(self):
        rng = seeded(35)
        made = 0
        for _ in range(300):
            desks = tuple((rng.choice([(0, 1), (1, 0), (2, 0), (0, 2)]) + some_desk(rng)[2:])
                          for _ in range(rng.randint(0, 4)))
            offers = sorted({(desk[0], x, desk[1], y) for desk in desks for x, y in needed_uses(desk)})
            wrong = [at for at in range(len(desks)) if any(max(use) > 30 for use in needed_uses(desks[at]))]
            with Unchanged(self, desks):
                if wrong:
                    with self.assertRaises(TooGreat) as caught:
                        board_of(3, desks)
                    self.assertEqual(caught.exception.index, wrong[0])
                elif len(offers) > 40:
                    self.assertRaises(TooMany, board_of, 3, desks)
                else:
                    made += 1
                    board = board_of(3, desks)
                    self.assertEqual(board, (3, tuple(offers)))
                    self.assertIsNone(board_error(board))
        self.assertGreater(made, 50)

    def test_no_desks(self):
        self.assertEqual(board_of(1, ()), (1, ()))
        self.assertEqual(board_of(4, ()), (4, ()))

    def test_each_offer_once(self):
        desk = (0, 1, 2, 3, "down", 1, 1, None)
        self.assertEqual(board_of(2, (desk,) * 12), (2, ((0, 2, 1, 1), (0, 3, 1, 2))))

    def test_too_great(self):
        good = (0, 1, 2, 3, "down", 1, 1, None)
        wide = (0, 1, 1, 30, "down", 1, 29, None)
        tall = (0, 1, 30, 1, "down", 2, 1, None)
        self.assertEqual(needed_uses(tall)[0], (2, 60))
        self.assertEqual(board_of(2, ((0, 1, 30, 1, "down", 1, 1, None),)), (2, ((0, 1, 1, 30),)))
        for desks, index in [((wide,), 0), ((good, wide), 1), ((good, good, tall, wide), 2), ((tall, good), 0)]:
            with self.assertRaises(TooGreat) as caught:
                board_of(2, desks)
            self.assertEqual(caught.exception.index, index)

    def test_too_many(self):
        # 15 needed uses each: two such desks come to 30 offers, three to more than 40
        desk = (0, 1, 1, 1, "down", 15, 1, None)
        self.assertEqual(needed_uses(desk), tuple((x, x) for x in range(15, 30)))
        ways = [(0, 1), (1, 0), (2, 0)]
        desks = tuple(way + desk[2:] for way in ways)
        self.assertRaises(TooMany, board_of, 3, desks)
        self.assertEqual(len(board_of(3, desks[:2])[1]), 30)
        ten = (2, 0, 1, 1, "down", 10, 1, None)
        self.assertEqual(len(needed_uses(ten)), 10)
        self.assertEqual(len(board_of(3, desks[:2] + (ten,))[1]), 40)
        eleven = (2, 0, 1, 1, "down", 11, 1, None)
        self.assertRaises(TooMany, board_of, 3, desks[:2] + (eleven,))

    def test_too_great_comes_first(self):
        many = tuple(way + (1, 1, "down", 15, 1, None) for way in [(0, 1), (1, 0), (2, 0)])
        with self.assertRaises(TooGreat) as caught:
            board_of(3, many + ((2, 1, 30, 1, "down", 2, 1, None),))
        self.assertEqual(caught.exception.index, 3)


if __name__ == "__main__":
    unittest.main()
