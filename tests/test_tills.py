import unittest

from plain import Unchanged, odd_values, replaced, seeded
from plain_boards import D, some_board
from plain_tills import MOST, NAMES, gains, is_from, plain_edit, some_edit
from smallchange import errors
from smallchange.boards import board_error
from smallchange.bounds import MAX_EDITS
from smallchange.covers import most, most_holds
from smallchange.desks import board_of
from smallchange.prices import worths
from smallchange.promises import Reserve
from smallchange.tills import SureTill, Till
from smallchange.values import Purse, Rule

ONE = (2, ((0, 2, 1, 4),))
TWO = (2, ((0, 2, 1, 4), (1, 3, 0, 1)))
FORTY = (4, tuple((a, x, 3, y) for a in (0, 1) for x in range(1, 11) for y in (0, 1)))
ODD = odd_values() + [Reserve(1, 2), Purse((1, 2)), Rule(((0,), 1, 0)), True, False, -1, 1.0, (0,), [0], "0"]


def fields_of(error):
    """The values that the error was made of, as it has them: a list, with "loop" for a loop that gains."""
    name = type(error).__name__
    fields = {"NoKind": ["kind"], "NoOffer": ["index"], "BadTimes": ["value"], "Stuck": ["index"], "TooFull": ["kind"],
              "BadOffer": ["value"], "BadAmount": ["value"], "TooLittle": ["amount"], "Gains": ["loop"]}.get(name, [])
    return name, ["loop" if field == "loop" else getattr(error, field) for field in fields]


def snapshot(till):
    """All that a till tells without a version."""
    told = [till.board, till.purse, till.loop, len(till), str(till), till.state(), list(till.each_offer()),
            till.edits(), bool(till)]
    for kind in range(till.board[0]):
        try:
            told.append(till.most(kind))
        except errors.NotSmall:
            told.append("not small")
    return told


class TillCase(unittest.TestCase):
    def fails(self, name, fields, call, *arguments, **more):
        """The call raises the error with these very fields, and no till among its objects changes."""
        till = getattr(call, "__self__", None)
        before = snapshot(till) if isinstance(till, Till) else None
        with self.assertRaises(getattr(errors, name)) as caught:
            call(*arguments, **more)
        self.assertIs(type(caught.exception), getattr(errors, name))
        got = list(vars(caught.exception).values())
        self.assertEqual(len(got), len(fields))
        for one, other in zip(got, fields):
            self.assertTrue(one is other or one == other and type(one) is type(other), (one, other))
        if before is not None:
            self.assertEqual(snapshot(till), before)
        return caught.exception


class NewTillTest(TillCase):
    def test_example(self):
        till = Till(ONE, (5, 0))
        self.assertEqual([till.board, till.purse, till.loop, len(till), str(till), Till.MOST_EDITS],
                         [ONE, (5, 0), None, 0, '1 offers, purse 5 0, 0 edits', 60])
        self.assertEqual((till.MOST_EDITS, SureTill.MOST_EDITS, MAX_EDITS), (60, 60, 60))

    def test_bad_boards_come_first(self):
        for board in list(replaced(TWO)) + ODD + [(5, ()), (2, ((0, 2, 2, 4),)), (2, TWO[1][::-1]), [2, ()]]:
            wrong = board_error(board)
            if wrong is not None:
                for purse in ((5, 0), None):
                    self.fails("BadBoard", [wrong], Till, board, purse)
                    self.fails("BadBoard", [wrong], SureTill, board, purse, "x", None)

    def test_bad_purses(self):
        for purse in list(replaced((5, 0))) + ODD + [(5,), (5, 0, 0), (5, -1), (5, MOST + 1), (5, True), [5, 0]]:
            if type(purse) is tuple and len(purse) == 2 and all(is_from(amount, 0, MOST) for amount in purse):
                continue
            self.fails("BadPurse", [purse], Till, TWO, purse)
            self.fails("BadPurse", [purse], SureTill, D, purse, -1, -1)

    def test_edges(self):
        for board, purse in [((1, ()), (0,)), ((1, ()), (MOST,)), ((4, ()), (1, 2, 3, MOST)), (FORTY, (MOST,) * 4)]:
            till = Till(board, purse)
            self.assertEqual((till.board, till.purse, till.loop, till.state()), (board, purse, None, (board, purse)))
            self.assertEqual(str(till), f"{len(board[1])} offers, purse {' '.join(map(str, purse))}, 0 edits")
        self.assertEqual(Till(D, (0, 0)).loop, worths(D)[1])


class EditTest(TillCase):
    def test_example(self):
        till = Till(ONE, (5, 0))
        answers = [till.use(0, 2), till.purse, till.add(1, 3, 0, 2), till.loop, till.give(1, 1), till.use(1, 3), till.purse]
        self.assertEqual(answers, [1, (1, 8), 2, (0, 1), 3, 4, (7, 0)])

    def test_wrong_values(self):
        till = Till(TWO, (5, 7))
        for value in ODD + [2, 10 ** 60 - 1]:
            if not is_from(value, 0, 1):
                self.fails("NoOffer", [value], till.use, value, None)
                self.fails("NoOffer", [value], till.drop, value)
                self.fails("NoKind", [value], till.give, value, None)
                self.fails("NoKind", [value], till.take, value, "x")
                self.fails("NoKind", [value], till.most, value)
            if not is_from(value, 1, MOST):
                self.fails("BadTimes", [value], till.use, 0, value)
            if not is_from(value, 0, MOST):
                self.fails("BadAmount", [value], till.give, 0, value)
                self.fails("BadAmount", [value], till.take, 1, value)
            for at in range(4):
                offer = [0, 2, 1, 5]
                offer[at] = value
                if [at, value] not in ([1, 2], [1, 1], [3, 2], [3, 1], [3, 0], [3, 5], [1, 0]) and not (
                        type(value) is int and (at == 1 and 1 <= value <= 30 or at == 3 and 0 <= value <= 30)):
                    error = self.fails("BadOffer", [tuple(offer)], till.add, *offer)
                    self.assertIs(error.value[at], value)

    def test_bad_offers(self):
        till = Till((4, ()), (0, 0, 0, 0))
        for offer in [(0, 0, 1, 1), (0, 31, 1, 1), (0, 1, 0, 1), (0, 1, 4, 1), (4, 1, 0, 1), (0, 1, 1, 31), (0, 1, 1, -1),
                      (-1, 1, 0, 1), (True, 1, 0, 1), (0, True, 1, 1), (0, 1, True, 1), (0, 1, 1, False)]:
            self.fails("BadOffer", [offer], till.add, *offer)
        self.assertEqual([till.add(3, 30, 0, 30), till.add(0, 1, 3, 0)], [1, 2])
        self.assertEqual(till.board, (4, ((0, 1, 3, 0), (3, 30, 0, 30))))
        self.fails("OfferThere", [], till.add, 0, 1, 3, 0)
        self.fails("BadOffer", [(0, 1, 1, 1)], Till((1, ()), (0,)).add, 0, 1, 1, 1)

    def test_uses(self):
        till = Till(((3, ((0, 1, 2, 1), (0, 2, 1, 30), (1, 7, 0, 0)))), (9, MOST - 90, 5))
        self.fails("Stuck", [0], till.use, 0, 10)
        self.fails("Stuck", [0], till.use, 1, 5)
        self.fails("Stuck", [0], till.use, 1, MOST)
        self.fails("BadTimes", [MOST + 1], till.use, 1, MOST + 1)
        self.fails("TooFull", [1], till.use, 1, 4)
        self.assertEqual((till.use(1, 3), till.purse), (1, (3, MOST, 5)))
        self.fails("TooFull", [1], till.use, 1, 1)
        self.assertEqual((till.use(0, 3), till.purse), (2, (0, MOST, 8)))
        self.fails("Stuck", [0], till.use, 1, 1)
        full = Till((2, ((0, 1, 1, 1),)), (MOST, 0))
        self.assertEqual((full.use(0, MOST), full.purse), (1, (0, MOST)))

    def test_gifts(self):
        till = Till(ONE, (MOST, MOST - 5))
        self.fails("TooFull", [0], till.give, 0, 1)
        self.fails("TooFull", [1], till.give, 1, MOST)
        self.assertEqual([till.give(1, 5), till.give(0, 0), till.take(0, MOST), till.purse], [1, 2, 3, (0, MOST)])
        self.fails("TooLittle", [0], till.take, 0, 1)
        till.take(1, 3)
        self.fails("TooLittle", [MOST - 3], till.take, 1, MOST)

    def test_offers_of_the_board(self):
        till = Till(FORTY, (0,) * 4)
        self.fails("TooManyOffers", [], till.add, 2, 1, 3, 1)
        self.fails("OfferThere", [], till.add, *FORTY[1][7])
        self.fails("BadOffer", [(2, 1, 2, 1)], till.add, 2, 1, 2, 1)
        self.fails("NoOffer", [40], till.drop, 40)
        self.assertEqual(till.drop(39), 1)
        self.assertEqual(till.board, (4, FORTY[1][:39]))
        self.assertEqual(till.add(2, 1, 3, 1), 2)
        self.assertEqual(till.board, (4, FORTY[1][:39] + ((2, 1, 3, 1),)))
        self.assertEqual([till.drop(0), till.board], [3, (4, FORTY[1][1:39] + ((2, 1, 3, 1),))])
        self.fails("NoOffer", [0], Till((2, ()), (1, 1)).drop, 0)
        self.fails("NoOffer", [0], Till((2, ()), (1, 1)).use, 0, 0)

    def test_sixty_edits_and_one_more(self):
        till = Till(TWO, (100, 0))
        for version in range(1, 61):
            self.assertEqual(till.give(0, 1), version)
        for call, values in [(till.give, (0, 1)), (till.take, (0, 1)), (till.use, (0, 1)), (till.use, (None, None)),
                             (till.add, (0, 1, 1, 1)), (till.add, (0, 0, 0, 0)), (till.drop, (0,)), (till.drop, (7,)),
                             (till.give, (7, -1))]:
            self.fails("TooManyEdits", [], call, *values)
        self.fails("Rejected", [0], till.attempt, [("give", 0, 1)])
        self.assertEqual(till.attempt([]), 0)
        self.assertEqual([till.undo(), till.give(1, 2), len(till)], [59, 60, 60])

    def test_plain_edits(self):
        rng = seeded(131)
        found = {}
        for _ in range(250):
            board = some_board(rng, rng.randint(1, 4), rng.choice([3, 6]), rng.choice([8, 30]))
            purse = tuple(rng.choice([0, rng.randint(0, 50), rng.randint(0, MOST)]) for _ in range(board[0]))
            till = Till(board, purse)
            for _ in range(20):
                edit = some_edit(rng, till.board, till.purse)
                after, wrong = plain_edit(till.board, till.purse, edit)
                found[wrong[0] if wrong else edit[0]] = found.get(wrong[0] if wrong else edit[0], 0) + 1
                call = getattr(till, edit[0])
                if wrong is not None:
                    self.fails(*wrong, call, *edit[1:])
                    continue
                past = till.edits()
                with Unchanged(self, edit):
                    self.assertEqual(call(*edit[1:]), len(past) + 1)
                self.assertEqual((till.board, till.purse), after)
                self.assertEqual(till.edits(), past + (edit,))
                self.assertEqual(till.loop, worths(till.board)[1] if gains(till.board) else None)
                self.assertIsNone(board_error(till.board))
        self.assertGreater(min(found.get(name, 0) for name in NAMES), 200)
        self.assertGreater(min(found.get(name, 0) for name in ["NoOffer", "BadTimes", "Stuck", "TooFull", "BadOffer",
                                                               "NoKind", "BadAmount", "TooLittle", "OfferThere"]), 4)

    def test_boards_of_desks(self):
        board = board_of(2, ((0, 1, 2, 3, "down", 1, 1, None), (1, 0, 1, 2, "up", 3, 1, None)))
        till = Till(board, (9, 0))
        till.use(1, 3)
        self.assertEqual((till.purse, till.loop), ((0, 6), worths(board)[1] if gains(board) else None))


class UndoTest(TillCase):
    def test_undo(self):
        till = Till(ONE, (5, 0))
        self.fails("NothingToUndo", [], till.undo)
        before = [snapshot(till)]
        for edit in [("use", 0, 2), ("add", 1, 3, 0, 2), ("give", 1, 1), ("drop", 0), ("take", 1, 9), ("drop", 0)]:
            getattr(till, edit[0])(*edit[1:])
            before.append(snapshot(till))
        for version in range(5, -1, -1):
            self.assertEqual(till.undo(), version)
            self.assertEqual(snapshot(till), before[version])
        self.fails("NothingToUndo", [], till.undo)

    def test_agrees_with_a_new_till(self):
        rng = seeded(132)
        for _ in range(60):
            board = some_board(rng, rng.randint(1, 4), 4, 8)
            purse = tuple(rng.randint(0, 12) for _ in range(board[0]))
            till = Till(board, purse)
            states = [(board, purse)]
            for _ in range(25):
                if rng.random() < 0.3 and len(till) > 0:
                    states.pop()
                    self.assertEqual(till.undo(), len(states) - 1)
                else:
                    edit = some_edit(rng, till.board, till.purse)
                    try:
                        getattr(till, edit[0])(*edit[1:])
                    except (errors.ChangeError, LookupError):
                        continue
                    states.append((till.board, till.purse))
            other = Till(board, purse)
            for edit in till.edits():
                getattr(other, edit[0])(*edit[1:])
            self.assertEqual(snapshot(till), snapshot(other))
            self.assertTrue(till == other)
            self.assertEqual([till.state(version=version) for version in range(len(states))], states)
            for version, (told, amounts) in enumerate(states):
                expected = [(index, amounts[a] // x) for index, (a, x, _, _) in enumerate(told[1])]
                self.assertEqual(list(till.each_offer(version=version)), expected)


class QueryTest(TillCase):
    def test_example(self):
        till = Till(TWO, (5, 7))
        answers = [till.take(1, 1), list(till.each_offer()), list(till.each_offer(version=0)), till.state(version=0)[1],
                   till.edits()]
        self.assertEqual(answers, [1, [(0, 2), (1, 2)], [(0, 2), (1, 2)], (5, 7), (('take', 1, 1),)])

    def test_versions(self):
        till = Till(TWO, (5, 7))
        till.use(0, 2)
        till.drop(1)
        self.assertEqual([till.state(version=version) for version in (None, 0, 1, 2)],
                         [(ONE, (1, 15)), (TWO, (5, 7)), (TWO, (1, 15)), (ONE, (1, 15))])
        self.assertEqual([list(till.each_offer(version=version)) for version in (None, 0, 1, 2)],
                         [[(0, 0)], [(0, 2), (1, 2)], [(0, 0), (1, 5)], [(0, 0)]])
        for version in ODD + [3, -1, True, False, 1.0]:
            if version is not None and not is_from(version, 0, 2):
                self.fails("NoVersion", [version], till.state, version=version)
                self.fails("NoVersion", [version], lambda version: next(till.each_offer(version=version)), version=version)
        till.undo()
        self.fails("NoVersion", [2], till.state, version=2)
        for call in (till.state, till.each_offer):
            with self.assertRaises(TypeError):
                call(0)

    def test_each_offer_goes_on(self):
        till = Till(TWO, (50, 70))
        found = till.each_offer()
        first = next(found)
        till.use(0, 25)
        till.drop(0)
        self.assertEqual([first] + list(found), [(0, 25), (1, 23)])
        found = till.each_offer(version=1)
        first = next(found)
        till.undo()
        till.undo()
        self.assertEqual([first] + list(found), [(0, 0), (1, 56)])
        # also where use would raise an error
        self.assertEqual(list(Till(ONE, (MOST, MOST)).each_offer()), [(0, MOST // 2)])
        self.assertEqual(list(Till((2, ()), (3, 4)).each_offer()), [])

    def test_most(self):
        till = Till(D, (2, 0))
        self.assertEqual([till.most(0), till.most(1)], [most(D, (2, 0), 0), most(D, (2, 0), 1)])
        rng = seeded(133)
        for _ in range(100):
            board = some_board(rng, rng.randint(1, 3), 12, 8)
            purse = [0] * board[0]
            for _ in range(12):
                purse[rng.randrange(board[0])] += 1
            till = Till(board, tuple(purse))
            for kind in range(board[0]):
                self.assertEqual(till.most(kind), most(board, tuple(purse), kind))
                self.assertTrue(most_holds(board, tuple(purse), kind, till.most(kind)))
            till.give(0, 1)
            self.fails("NotSmall", [], till.most, 0)

    def test_not_small(self):
        many = tuple((0, 1 + at % 8, 1, at // 8) for at in range(13))
        for board, small in [((3, ()), True), ((4, ()), False), ((2, many[:12]), True), ((2, tuple(sorted(many))), False),
                             ((2, ((0, 8, 1, 8),)), True), ((2, ((0, 9, 1, 8),)), False), ((2, ((0, 8, 1, 9),)), False)]:
            till = Till((board[0], tuple(sorted(board[1]))), (1,) + (0,) * (board[0] - 1))
            if small:
                self.assertEqual(till.most(0), most(till.board, till.purse, 0))
            else:
                self.fails("NotSmall", [], till.most, 0)
                self.fails("NoKind", [True], till.most, True)
        for purse in [(13, 0), (6, 7), (MOST, MOST)]:
            self.fails("NotSmall", [], Till(ONE, purse).most, 0)
        self.assertEqual(Till((2, ()), (5, 7)).most(1)[:2], ("most", 7))

    def test_truth_and_text(self):
        till = Till(TWO, (5, 7))
        self.assertFalse(till)
        till.give(0, 1)
        self.assertTrue(till)
        self.assertEqual((len(till), str(till)), (1, "2 offers, purse 6 7, 1 edits"))
        till.undo()
        self.assertFalse(till)
        self.assertEqual(str(Till((1, ()), (0,))), "0 offers, purse 0, 0 edits")


class EqualTest(TillCase):
    def test_example(self):
        one, other = Till(ONE, (5, 0)), Till(ONE, (2, 4))
        self.assertEqual([one == other, other.give(0, 1), one.use(0, 1), one == other], [False, 1, 1, True])

    def test_tills(self):
        plain = Till(ONE, (5, 0))
        sure = SureTill(ONE, (5, 0), 0, 2)
        for other, expected in [(Till(ONE, (5, 0)), True), (Till(ONE, (5, 1)), False), (Till(TWO, (5, 0)), False),
                                (sure, False), (ONE, False), ((ONE, (5, 0)), False), (None, False), (str(plain), False)]:
            self.assertIs(plain == other, expected)
            self.assertIs(other == plain, expected)
            self.assertIs(plain != other, not expected)
        for other, expected in [(SureTill(ONE, (5, 0), 0, 2), True), (SureTill(ONE, (5, 0), 0, 1), False),
                                (SureTill(ONE, (5, 0), 1, 0), False), (SureTill(ONE, (5, 1), 0, 2), False),
                                (plain, False), (Reserve(0, 2), False), (SureTill(ONE, (5, 0), 0, 0), False)]:
            self.assertIs(sure == other, expected)
            self.assertIs(other == sure, expected)
        sure.give(0, 1)
        other = SureTill(ONE, (6, 0), 0, 2)
        self.assertTrue(sure == other)


class SureTillTest(TillCase):
    def test_example(self):
        till = SureTill(ONE, (5, 0), 0, 2)
        self.assertEqual([till.use(0, 1), till.reserve.spare(till.purse[0])], [1, 1])
        self.fails("TooLittle", [1], till.use, 0, 1)

    def test_new_sure_tills(self):
        till = SureTill(ONE, (5, 0), 1, 0)
        self.assertIsInstance(till, Till)
        self.assertIsInstance(till.reserve, Reserve)
        self.assertEqual((till.reserve.kind, till.reserve.least, till.board, till.purse, till.loop, len(till)),
                         (1, 0, ONE, (5, 0), None, 0))
        for kind in ODD + [2, 3, 4, True]:
            if not is_from(kind, 0, 1):
                self.fails("NoKind", [kind], SureTill, D, (5, 0), kind, None)
        for least in ODD + [MOST + 1]:
            if not is_from(least, 0, MOST):
                self.fails("BadAmount", [least], SureTill, D, (5, 0), 0, least)
        loop = worths(D)[1]
        self.fails("Gains", [loop], SureTill, D, (5, 0), 0, 6)
        self.fails("TooLittle", [5], SureTill, ONE, (5, 0), 0, 6)
        self.fails("TooLittle", [0], SureTill, ONE, (5, 0), 1, MOST)
        self.assertEqual(SureTill(ONE, (5, MOST), 1, MOST).reserve.least, MOST)

    def test_loops(self):
        till = SureTill(ONE, (5, 0), 0, 2)
        error = self.fails("Gains", [(0, 1)], till.add, 1, 3, 0, 2)
        self.assertEqual(error.loop, worths(D)[1])
        self.assertEqual([till.add(1, 3, 0, 1), till.add(1, 4, 0, 2), till.loop], [1, 2, None])
        self.fails("Gains", [(0, 1)], till.add, 1, 1, 0, 30)
        # the loop is told with the indexes of the board that there would be
        till = SureTill((3, ((0, 1, 2, 1), (1, 1, 0, 2), (2, 1, 0, 0))), (5, 0, 0), 0, 2)
        self.fails("Gains", [(0, 2)], till.add, 0, 1, 1, 1)
        self.fails("OfferThere", [], till.add, 1, 1, 0, 2)
        self.fails("BadOffer", [(0, 1, 1, 31)], till.add, 0, 1, 1, 31)

    def test_both_come_behind_all_others(self):
        till = SureTill((2, ((0, 2, 1, 4), (1, 1, 0, 0))), (5, MOST - 4), 0, 4)
        self.fails("Stuck", [0], till.use, 0, 3)
        self.fails("TooFull", [1], till.use, 0, 2)
        self.fails("TooLittle", [3], till.use, 0, 1)
        self.fails("TooLittle", [5], till.take, 0, 6)
        self.fails("TooLittle", [3], till.take, 0, 2)
        self.assertEqual([till.take(0, 1), till.give(1, 4), till.purse], [1, 2, (4, MOST)])
        self.fails("TooFull", [1], till.use, 0, 1)
        self.fails("TooLittle", [3], till.take, 0, 1)
        self.assertEqual([till.undo(), till.undo(), till.purse], [1, 0, (5, MOST - 4)])

    def test_undo_raises_neither(self):
        till = SureTill(ONE, (2, 0), 0, 2)
        till.give(0, 5)
        till.use(0, 2)
        till.add(1, 30, 0, 1)
        till.drop(0)
        for version in (3, 2, 1, 0):
            self.assertEqual(till.undo(), version)
        self.assertEqual(till.state(), (ONE, (2, 0)))

    def test_plain_edits(self):
        rng = seeded(134)
        found = {}
        for _ in range(300):
            board = some_board(rng, rng.randint(1, 3), 4, 8)
            purse = tuple(rng.randint(0, 40) for _ in range(board[0]))
            if gains(board):
                self.fails("Gains", [worths(board)[1]], SureTill, board, purse, 0, MOST)
                continue
            kind = rng.randrange(board[0])
            promise = (kind, rng.randint(0, purse[kind]))
            till = SureTill(board, purse, *promise)
            for _ in range(15):
                edit = some_edit(rng, till.board, till.purse)
                after, wrong = plain_edit(till.board, till.purse, edit, promise)
                found[wrong[0] if wrong else edit[0]] = found.get(wrong[0] if wrong else edit[0], 0) + 1
                if wrong is None:
                    getattr(till, edit[0])(*edit[1:])
                    self.assertEqual((till.board, till.purse, till.loop), after + (None,))
                    continue
                before = snapshot(till)
                with self.assertRaises(getattr(errors, wrong[0])) as caught:
                    getattr(till, edit[0])(*edit[1:])
                self.assertEqual(fields_of(caught.exception), wrong)
                self.assertEqual(snapshot(till), before)
            self.assertEqual((till.reserve.kind, till.reserve.least), promise)
        self.assertGreater(min(found.get(name, 0) for name in ["Gains", "TooLittle", "use", "take", "drop"]), 25)


if __name__ == "__main__":
    unittest.main()
