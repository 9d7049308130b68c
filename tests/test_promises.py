import unittest

from plain import odd_values
from smallchange.errors import BadAmount, NoKind, TooLittle
from smallchange.promises import Reserve
from smallchange.tills import Till
from smallchange.values import Purse

ODD = odd_values() + [Till((1, ()), (3,)), Purse((1, 2)), True, False, -1, 2.0, "1", (1,), [1]]


def is_from(value, low, high):
    return type(value) is int and low <= value <= high


class ReserveTest(unittest.TestCase):
    def test_example(self):
        held = Reserve(1, 20)
        self.assertEqual([held.kind, held.least, held.spare(25)], [1, 20, 5])

    def test_edges(self):
        for kind in range(4):
            for least in (0, 1, 10 ** 6):
                held = Reserve(kind, least)
                self.assertEqual((held.kind, held.least), (kind, least))
                for amount in (least, least + 1, 10 ** 30):
                    self.assertEqual(held.spare(amount), amount - least)
                if least > 0:
                    for amount in (0, least - 1):
                        with self.assertRaises(TooLittle) as caught:
                            held.spare(amount)
                        self.assertEqual(caught.exception.amount, amount)
                self.assertEqual((held.kind, held.least), (kind, least))

    def test_wrong_kinds_come_first(self):
        for kind in ODD + [4, 5]:
            if not is_from(kind, 0, 3):
                for least in (0, None, -1):
                    with self.assertRaises(NoKind) as caught:
                        Reserve(kind, least)
                    self.assertIs(caught.exception.kind, kind)

    def test_wrong_amounts(self):
        for least in ODD + [10 ** 6 + 1]:
            if not is_from(least, 0, 10 ** 6):
                with self.assertRaises(BadAmount) as caught:
                    Reserve(3, least)
                self.assertIs(caught.exception.value, least)
        for amount in ODD + [10 ** 30 + 1]:
            if not is_from(amount, 0, 10 ** 30):
                with self.assertRaises(BadAmount) as caught:
                    Reserve(3, 20).spare(amount)
                self.assertIs(caught.exception.value, amount)


if __name__ == "__main__":
    unittest.main()
