import unittest

from plain import odd_values, seeded
from plain_boards import some_board
from plain_tills import NAMES, gains, plain_edit, some_edit
from smallchange import errors
from smallchange.tills import SureTill, Till
from smallchange.values import Purse
from test_tills import ONE, TWO, TillCase, snapshot

GIFT = ("give", 0, 1)


class Odd(Exception):
    """An error that no package knows."""


class BatchTest(TillCase):
    def test_example(self):
        till = Till(ONE, (5, 0))
        self.fails("Rejected", [1], till.attempt, [('use', 0, 2), ('use', 0, 1)])

    def test_batches(self):
        for edits in ([("use", 0, 2), ("add", 1, 3, 0, 2), ("give", 1, 1), ("drop", 0), ("take", 1, 9)], []):
            for batch in (edits, tuple(edits)):
                till, other = Till(ONE, (5, 0)), Till(ONE, (5, 0))
                self.assertEqual(till.attempt(batch), len(edits))
                for edit in edits:
                    getattr(other, edit[0])(*edit[1:])
                self.assertEqual(snapshot(till), snapshot(other))
                self.assertEqual(till.edits(), tuple(edits))
                # each edit can be undone by itself
                for version in range(len(edits), 0, -1):
                    self.assertEqual((till.undo(), other.undo()), (version - 1, version - 1))
                    self.assertEqual(snapshot(till), snapshot(other))

    def test_bad_edits(self):
        till = Till(ONE, (5, 0))
        for value in odd_values() + [Purse((1, 2)), till, "use", {"use": 1}, None, [GIFT] * 21, (GIFT,) * 21, [None] * 21]:
            if not isinstance(value, (list, tuple)) or len(value) > 20:
                self.fails("BadEdits", [], till.attempt, value)
                self.fails("BadEdits", [], till.attempt, value, watch=lambda told: self.fail("watched"))
        self.assertEqual(till.attempt([GIFT] * 20), 20)
        self.assertEqual(till.attempt((GIFT,) * 20), 20)
        with self.assertRaises(TypeError):
            till.attempt([], None)

    def test_bad_edit(self):
        till = Till(ONE, (5, 0))
        wrong = odd_values() + [("use",), ("use", 0), ("use", 0, 1, 2), ("add", 0, 1, 1), ("add", 0, 1, 1, 1, 1),
                                ("drop",), ("drop", 0, 0), ("give", 0), ("take", 0, 1, 1), ("undo",), ("attempt", []),
                                ["give", 0, 1], "give", (["give"], 0, 1), (None, 0, 1), (1, 0, 1), ("Give", 0, 1),
                                ("give 0 1",), (("give",), 0, 1), ("most", 0), ("", 0, 1), Purse((1, 2, 3))]
        for value in wrong:
            for batch in ([value], [GIFT, value], [GIFT, value, None], ((("use", 9, 9)), GIFT, value)):
                index = [one is value for one in batch].index(True)
                if not isinstance(value, tuple) or value[:1] not in [(name,) for name in NAMES] or (
                        len(value) != 1 + NAMES[value[0]]):
                    # no edit is done, not even one that would raise an error
                    self.fails("BadEdit", [index], till.attempt, batch, watch=lambda told: self.fail("watched"))
        for name, count in NAMES.items():
            for values in ([None] * count, ["x"] * count, [()] * count, [[0]] * count, [True] * count):
                self.fails("Rejected", [0], till.attempt, [(name, *values)])

    def test_rejected(self):
        till = Till(TWO, (5, 7))
        till.give(0, 1)
        for index, wrong in [(0, ("use", 0, 9)), (3, ("take", 1, 100)), (5, ("add", 0, 2, 1, 4)), (5, ("add", 0, 0, 1, 4)),
                             (7, ("drop", 2)), (7, ("give", 2, 1)), (2, ("give", 1, 10 ** 6)), (19, ("use", 0, True))]:
            self.fails("Rejected", [index], till.attempt, [GIFT] * index + [wrong] + [("use", 0, 1)] * (19 - index))
        self.assertEqual(len(till), 1)
        # also where no edit more can stand
        till.attempt([GIFT] * 20)
        till.attempt([GIFT] * 20)
        self.fails("Rejected", [19], till.attempt, [GIFT] * 20)
        self.assertEqual(till.attempt([GIFT] * 19), 19)
        self.assertEqual(len(till), 60)

    def test_rejected_by_a_promise(self):
        till = SureTill(ONE, (5, 0), 0, 2)
        self.fails("Rejected", [2], till.attempt, [GIFT, ("use", 0, 2), ("take", 0, 1)])
        self.fails("Rejected", [1], till.attempt, [GIFT, ("add", 1, 3, 0, 2)])
        self.assertEqual(till.attempt([GIFT, ("use", 0, 2), GIFT, ("take", 0, 1)]), 4)

    def test_edits_are_copied(self):
        till = Till(ONE, (50, 0))
        edits = [GIFT, ("use", 0, 1), GIFT]

        def watch(told):
            edits.clear()
            edits.extend([None, 5])

        self.assertEqual(till.attempt(edits, watch=watch), 3)
        self.assertEqual((till.purse, till.edits()), ((50, 4), (GIFT, ("use", 0, 1), GIFT)))


class WatchTest(TillCase):
    def test_sees_each_edit(self):
        till = Till(TWO, (20, 0))
        other = Till(TWO, (20, 0))
        edits = [("use", 0, 2), ("drop", 0), ("give", 1, 3), ("take", 0, 1), ("add", 1, 2, 0, 9)]
        seen = []

        def watch(told):
            self.assertIs(told, till)
            edit = edits[len(seen)]
            getattr(other, edit[0])(*edit[1:])
            self.assertEqual(snapshot(told), snapshot(other))
            self.assertTrue(told == other)
            versions = range(len(other) + 1)
            self.assertEqual([told.state(version=version) for version in versions],
                             [other.state(version=version) for version in versions])
            seen.append(len(told))

        self.assertEqual(till.attempt(edits, watch=watch), 5)
        self.assertEqual(seen, [1, 2, 3, 4, 5])
        self.assertEqual(Till(ONE, (1, 1)).attempt([], watch=lambda told: self.fail("watched")), 0)

    def test_ends_the_batch(self):
        for value, expected in [(True, 2), (1, 2), ("x", 2), ([0], 2), (ONE, 2), (Till, 2), (Purse((0,)), 2),
                                (False, 4), (None, 4), (0, 4), ("", 4), ([], 4), ((), 4), ({}, 4), (Till(ONE, (1, 1)), 4)]:
            till = Till(ONE, (5, 0))
            self.assertEqual(till.attempt([GIFT] * 4, watch=lambda told: value if len(told) == 2 else None), expected)
            self.assertEqual((till.purse, till.edits()), ((5 + expected, 0), (GIFT,) * expected))
            self.assertEqual([till.give(0, 1), till.undo(), till.undo()], [expected + 1, expected, expected - 1])
        # what would be wrong later is not done, but is asked whether it is an edit
        till = Till(ONE, (5, 0))
        self.assertEqual(till.attempt([GIFT, ("use", 7, 7)], watch=lambda told: True), 1)
        self.fails("BadEdit", [1], till.attempt, [GIFT, ("use", 7)], watch=lambda told: True)

    def test_exceptions_propagate(self):
        for error in [Odd("x"), ValueError(1), KeyError("y"), errors.Stuck(3), errors.Rejected(9), errors.NoKind(None),
                      KeyboardInterrupt(), SystemExit(2), StopIteration(), GeneratorExit(), ZeroDivisionError()]:
            for count in (1, 3):
                till = Till(TWO, (20, 0))
                till.use(0, 1)
                before = snapshot(till)

                def watch(told):
                    if len(told) == 1 + count:
                        raise error

                with self.assertRaises(type(error)) as caught:
                    till.attempt([GIFT, ("add", 1, 1, 0, 9), ("drop", 0), GIFT], watch=watch)
                self.assertIs(caught.exception, error)
                self.assertEqual(snapshot(till), before)
                # the till takes edits again
                self.assertEqual([till.give(0, 1), till.attempt([GIFT, GIFT]), till.undo()], [2, 2, 3])

    def test_busy(self):
        till = Till(TWO, (20, 0))
        calls = [(till.use, (0, 1)), (till.add, (0, 1, 1, 1)), (till.drop, (0,)), (till.give, GIFT[1:]), (till.undo, ()),
                 (till.take, (0, 1)), (till.attempt, ([],)), (till.use, (None, None)), (till.add, (1, 1, 1, 1)),
                 (till.drop, ("x",)), (till.give, (9, 9)), (till.take, (None, -1)), (till.attempt, (None,)),
                 (till.attempt, ([None],))]

        def watch(told):
            for call, values in calls:
                self.fails("Busy", [], call, *values)
            self.fails("NoVersion", [9], told.state, version=9)
            self.fails("NoKind", [2], told.most, 2)

        self.assertEqual(till.attempt([GIFT, GIFT], watch=watch), 2)
        self.assertEqual(till.purse, (22, 0))
        for call, values in calls[:6]:
            with self.assertRaises(errors.Busy):
                till.attempt([GIFT], watch=lambda told: call(*values))
            self.assertEqual((till.purse, len(till)), ((22, 0), 2))
        self.assertEqual(till.undo(), 1)

    def test_busy_comes_first(self):
        till = Till(ONE, (5, 0))
        till.attempt([GIFT] * 20)
        till.attempt([GIFT] * 20)
        till.attempt([GIFT] * 19)

        def watch(told):
            self.assertEqual(len(told), 60)
            self.fails("Busy", [], told.give, 0, 1)
            self.fails("Busy", [], told.attempt, [GIFT])

        self.assertEqual(till.attempt([GIFT], watch=watch), 1)
        self.fails("TooManyEdits", [], till.give, 0, 1)

    def test_other_tills(self):
        one, other = Till(ONE, (5, 0)), SureTill(TWO, (50, 0), 0, 2)

        def inner(told):
            self.fails("Busy", [], one.undo)
            self.fails("Busy", [], other.undo)

        def watch(told):
            other.give(0, len(told))
            self.assertEqual(other.attempt([GIFT, ("use", 0, 1)], watch=inner), 2)
            other.undo()

        self.assertEqual(one.attempt([GIFT, GIFT], watch=watch), 2)
        self.assertEqual((one.purse, other.purse, len(other)), ((7, 0), (55, 0), 4))

    def test_generators_within_a_watch(self):
        till = Till(TWO, (20, 0))
        found = []
        self.assertEqual(till.attempt([GIFT, ("use", 0, 3)], watch=lambda told: found.append(told.each_offer())), 2)
        self.assertEqual([list(offers) for offers in found][1], [(0, 7), (1, 4)])


class ModelTest(TillCase):
    def test_many_batches(self):
        """After any edits, batches, watches and undos a till is as a new one with the edits that stand."""
        rng = seeded(141)
        found = {"done": 0, "rejected": 0, "watched": 0, "ended": 0, "undone": 0}
        for round_ in range(120):
            board = some_board(rng, rng.randint(1, 4), 4, 8)
            purse = tuple(rng.randint(0, 12) for _ in range(board[0]))
            promise = (0, rng.randint(0, purse[0])) if round_ % 2 and not gains(board) else None
            till = Till(board, purse) if promise is None else SureTill(board, purse, *promise)
            standing = []
            for _ in range(10):
                self.one_step(rng, till, standing, promise, found)
                self.assertEqual(till.edits(), tuple(standing))
            other = Till(board, purse) if promise is None else SureTill(board, purse, *promise)
            states = [other.state()]
            for edit in standing:
                getattr(other, edit[0])(*edit[1:])
                states.append(other.state())
            self.assertEqual(snapshot(till), snapshot(other))
            self.assertTrue(till == other)
            for version, state in enumerate(states):
                self.assertEqual(till.state(version=version), state)
                self.assertEqual(list(till.each_offer(version=version)), list(Till(*state).each_offer()))
        self.assertGreater(min(found.values()), 40)

    def one_step(self, rng, till, standing, promise, found):
        """An undo, or a batch with a watch; standing has the edits that stand, by the plain words."""
        if standing and rng.random() < 0.25:
            found["undone"] += 1
            till.undo()
            standing.pop()
            return
        state = (till.board, till.purse)
        edits, wrong = [], None
        for _ in range(rng.randint(1, 6)):
            edits.append(some_edit(rng, *state))
            after, wrong = plain_edit(*state, edits[-1], promise)
            if wrong is not None and rng.random() < 0.7:
                edits.pop()
                wrong = None
            elif wrong is not None:
                break
            else:
                state = after
        stop = len(till) + rng.randint(1, 9)
        mode = rng.choice(["end", "error", None])
        count = len(till)

        def watch(told):
            if mode == "error" and len(told) == stop:
                raise Odd()
            return mode == "end" and len(told) == stop

        done = len(edits) - (wrong is not None)
        try:
            self.assertEqual(till.attempt(edits, watch=watch if mode else None), min(done, stop - count) if mode else done)
            found["ended" if mode and stop - count <= done else "done"] += 1
            standing.extend(edits[:len(till) - count])
        except errors.Rejected as error:
            self.assertEqual(error.index, done)
            self.assertIsNotNone(wrong)
            found["rejected"] += 1
        except Odd:
            found["watched"] += 1


if __name__ == "__main__":
    unittest.main()
