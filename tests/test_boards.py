import unittest

from plain import is_integer, odd_values, replaced
from smallchange.boards import board_error

SAMPLE = (3, ((0, 3, 1, 2), (0, 4, 2, 1), (1, 1, 0, 1), (1, 3, 2, 2)))


def plain_offer(kinds, item):
    if type(item) is not tuple or len(item) != 4 or not all(is_integer(part) for part in item):
        return False
    a, x, b, y = item
    return 0 <= a < kinds and 0 <= b < kinds and a != b and 1 <= x <= 30 and 0 <= y <= 30


def plain_error(value):
    """The answer by the words of point 4, put together another way."""
    if type(value) is not tuple or len(value) != 2:
        return (None, "board")
    kinds, offers = value
    if not is_integer(kinds) or kinds not in (1, 2, 3, 4):
        return (None, "kinds")
    if type(offers) is not tuple or len(offers) > 40:
        return (None, "offers")
    for index in range(len(offers)):
        if not plain_offer(kinds, offers[index]):
            return (index, "offer")
        if index and not offers[index] > offers[index - 1]:
            return (index, "order")
    return None


class BoardErrorTest(unittest.TestCase):
    def test_example(self):
        answers = [board_error((2, ((0, 2, 1, 4), (1, 3, 0, 2)))), board_error((2, ((0, 2, 2, 4),))),
                   board_error((2, ((1, 3, 0, 2), (0, 2, 1, 4)))), board_error((5, ()))]
        self.assertEqual(answers, [None, (0, 'offer'), (1, 'order'), (None, 'kinds')])

    def test_boards(self):
        for value in [SAMPLE, (1, ()), (4, ()), (4, ((3, 30, 0, 0),)), (2, ((0, 1, 1, 0), (0, 1, 1, 30)))]:
            self.assertIsNone(board_error(value))

    def test_number_of_offers(self):
        offers = tuple((0, x, 1, y) for x in (1, 2) for y in range(21))
        self.assertIsNone(board_error((2, offers[:40])))
        self.assertEqual(board_error((2, offers[:41])), (None, "offers"))
        self.assertEqual(board_error((2, (0,) * 41)), (None, "offers"))
        self.assertEqual(board_error((2, list(offers[:3]))), (None, "offers"))

    def test_kinds(self):
        for kinds in [0, -1, 5, True, None, "2", (2,), [2]]:
            self.assertEqual(board_error((kinds, ())), (None, "kinds"))
        self.assertEqual(board_error((0, None)), (None, "kinds"))

    def test_form(self):
        for value in [None, 2, "board", [2, ()], (2,), (2, (), ()), (), {}]:
            self.assertEqual(board_error(value), (None, "board"))

    def test_offers(self):
        good = (0, 1, 1, 1)
        wrong = [(0, 0, 1, 1), (0, 31, 1, 1), (0, 1, 1, 31), (0, 1, 1, -1), (0, 1, 0, 1), (2, 1, 0, 1), (0, 1, 2, 1),
                 (-1, 1, 0, 1), (False, 1, 1, 1), (0, True, 1, 1), (0, 1, True, 1), (0, 1, 1, True), [0, 1, 1, 1],
                 (0, 1, 1), (0, 1, 1, 1, 1), None, (0, 1, 1, "1"), (0, (1,), 1, 1)]
        for offer in wrong:
            self.assertEqual(board_error((2, (offer,))), (0, "offer"), offer)
            self.assertEqual(board_error((2, (good, offer))), (1, "offer"), offer)

    def test_order(self):
        self.assertEqual(board_error((2, ((0, 1, 1, 1), (0, 1, 1, 1)))), (1, "order"))
        self.assertEqual(board_error((2, ((0, 2, 1, 1), (0, 1, 1, 2)))), (1, "order"))
        # an item that is no offer is told ahead of the order of the next one, and the other way round
        self.assertEqual(board_error((2, ((0, 2, 1, 1), (0, 1, 1, 2), None))), (1, "order"))
        self.assertEqual(board_error((2, ((0, 2, 1, 1), None, (0, 1, 1, 2)))), (1, "offer"))

    def test_any_value(self):
        for value in list(odd_values()) + list(replaced(SAMPLE)) + list(replaced((2, ((0, 1, 1, 1),)))):
            self.assertEqual(board_error(value), plain_error(value))


if __name__ == "__main__":
    unittest.main()
