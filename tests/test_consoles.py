import re
import unittest

from plain import odd_values, seeded
from plain_boards import D, some_board
from plain_tills import NAMES, some_edit
from smallchange import errors
from smallchange.consoles import Console
from smallchange.promises import Reserve
from smallchange.tills import SureTill, Till
from smallchange.values import Purse, Rule
from test_tills import FORTY, MOST, ONE, TWO, snapshot

UNKNOWN = "unknown command"
COUNTS = dict(NAMES, undo=0, rows=0, purse=0, loop=0, most=1, spare=1)


def is_command(line, sure):
    """Whether any value is a command, by the words of point 26."""
    if not isinstance(line, str):
        return False
    words = line.split(" ")
    if words[0] not in COUNTS or (words[0] == "spare" and not sure):
        return False
    return len(words) == 1 + COUNTS[words[0]] and all(
        re.fullmatch("0|-?[1-9][0-9]{0,39}", word) for word in words[1:])


def plain_answer(till, line):
    """The answer to a line, by the methods of a till."""
    if not is_command(line, isinstance(till, SureTill)):
        return UNKNOWN
    name, *words = line.split(" ")
    numbers = [int(word) for word in words]
    try:
        if name == "rows":
            return ", ".join(" ".join(map(str, offer)) for offer in till.board[1]) if till.board[1] else "none"
        if name == "purse":
            return " ".join(map(str, till.purse))
        if name == "loop":
            return "none" if till.loop is None else " ".join(map(str, till.loop))
        if name == "most":
            told = till.most(*numbers)
            return "endless" if told[0] == "endless" else str(told[1])
        if name == "spare":
            return str(till.reserve.spare(*numbers))
        return f"ok {getattr(till, name)(*numbers)}"
    except (errors.ChangeError, LookupError) as error:
        return "error " + type(error).__name__


class ConsoleTest(unittest.TestCase):
    def unknown(self, console, *lines):
        before = snapshot(console.till)
        for line in lines:
            self.assertEqual(console.execute(line), UNKNOWN, line)
        self.assertEqual(snapshot(console.till), before)

    def answers(self, console, answers):
        for line, answer in answers:
            self.assertEqual(console.execute(line), answer, line)

    def test_example(self):
        console = Console(Till(ONE, (5, 0)))
        lines = ('use 0 2', 'purse', 'use 0 1', 'add 1 3 0 2', 'rows', 'loop', 'spare 1', 'use  0 1')
        self.assertEqual([console.execute(line) for line in lines],
                         ['ok 1', '1 8', 'error Stuck', 'ok 2', '0 2 1 4, 1 3 0 2', '0 1', UNKNOWN, UNKNOWN])

    def test_all_commands(self):
        till = Till(TWO, (5, 7))
        console = Console(till)
        self.answers(console, [("rows", "0 2 1 4, 1 3 0 1"), ("purse", "5 7"), ("loop", "none"), ("most 0", "7"),
                               ("use 0 2", "ok 1"), ("purse", "1 15"), ("most 1", "error NotSmall"), ("drop 0", "ok 2"),
                               ("give 0 10", "ok 3"), ("take 1 15", "ok 4"), ("purse", "11 0"), ("most 1", "0"),
                               ("most 0", "11"), ("drop 0", "ok 5"), ("rows", "none"), ("undo", "ok 4"),
                               ("add 0 1 1 3", "ok 5"), ("loop", "none"), ("add 1 3 0 2", "ok 6"), ("loop", "0 2"),
                               ("most 0", "endless"), ("give 1 0", "ok 7"), ("rows", "0 1 1 3, 1 3 0 1, 1 3 0 2")])
        # it is this very till
        self.assertIs(console.till, till)
        self.assertEqual((len(till), till.purse), (7, (11, 0)))
        till.undo()
        self.assertEqual(console.execute("undo"), "ok 5")

    def test_errors(self):
        console = Console(Till(TWO, (5, MOST)))
        before = snapshot(console.till)
        self.answers(console, [("use 2 1", "error NoOffer"), ("use -1 1", "error NoOffer"), ("use 0 0", "error BadTimes"),
                               ("use 0 3", "error Stuck"), ("use 0 1", "error TooFull"), ("add 0 0 1 1", "error BadOffer"),
                               ("add 0 2 1 4", "error OfferThere"), ("drop 2", "error NoOffer"), ("give 2 1", "error NoKind"),
                               ("give 0 -1", "error BadAmount"), ("give 1 1", "error TooFull"), ("take 0 6", "error TooLittle"),
                               ("most 2", "error NoKind"), ("most 0", "error NotSmall"), ("undo", "error NothingToUndo"),
                               ("use " + "9" * 40 + " 1", "error NoOffer"), ("give 0 " + "9" * 40, "error BadAmount")])
        self.assertEqual(snapshot(console.till), before)
        self.assertEqual(Console(Till(FORTY, (0,) * 4)).execute("add 2 1 3 1"), "error TooManyOffers")
        console = Console(Till(ONE, (5, 0)))
        for version in range(1, 61):
            self.assertEqual(console.execute("give 0 1"), f"ok {version}")
        self.answers(console, [("give 0 1", "error TooManyEdits"), ("use 9 9", "error TooManyEdits"), ("purse", "65 0")])

    def test_sure_tills(self):
        console = Console(SureTill(ONE, (5, 0), 0, 2))
        self.answers(console, [("spare 5", "3"), ("spare 2", "0"), ("spare 1", "error TooLittle"),
                               ("spare -1", "error BadAmount"), ("spare 1" + "0" * 30, "9" * 29 + "8"),
                               ("spare 1" + "0" * 31, "error BadAmount"), ("add 1 3 0 2", "error Gains"),
                               ("take 0 4", "error TooLittle"), ("use 0 1", "ok 1"), ("loop", "none")])
        self.unknown(console, "spare", "spare 1 2", "spare x", "spare 01", "spare -0")
        self.unknown(Console(Till(ONE, (5, 0))), "spare 5", "spare", "spare -1")

    def test_within_a_watch(self):
        till = Till(ONE, (5, 0))
        console = Console(till)
        told = []

        def watch(_):
            told.extend([console.execute(line) for line in ("give 0 1", "undo", "purse", "most 9", "x")])

        self.assertEqual(till.attempt([("give", 0, 1)], watch=watch), 1)
        self.assertEqual(told, ["error Busy", "error Busy", "6 0", "error NoKind", UNKNOWN])
        self.assertEqual(console.execute("give 0 1"), "ok 2")

    def test_lines_that_are_no_commands(self):
        console = Console(SureTill(ONE, (5, 0), 0, 2))
        self.unknown(console, "", " ", "  ", "use", "use 0", "use 0 1 2", " use 0 1", "use 0 1 ", "use  0 1", "use 0  1",
                     "Use 0 1", "USE 0 1", "use 0 1\n", "\nuse 0 1", "use\n0 1", "use 0\t1", "use -0 1", "use +0 1",
                     "use 00 1", "use 0 01", "use 0 +1", "use 0 -01", "use 0 --1", "use 0 1-", "use 0 -", "use 0 1.0",
                     "use 0 1e1", "use 0 1_0", "use 0 0x1", "use 0 " + "1" * 41, "use 0 -" + "1" * 41, "use 0 x", "use0 1",
                     "add 0 1 1", "add 0 1 1 1 1", "drop", "drop 0 0", "give 0", "take 0 1 1", "undo 1", "undo ", "rows 1",
                     "rows ", "purse 0", "purses", "loop 0", "loop ", "most", "most 0 1", "most x", "attempt", "edits", "state",
                     "most -0", "none", "x" * 3000, "use 0 " + "9" * 2000, "1", "0 1", "undo\n", "purse\npurse", "drop 0 ")
        self.unknown(console, *odd_values(), Purse((1, 2)), Rule(((0,), 1, 0)), Reserve(0, 1), console, console.till, True, 1,
                     b"undo", ["undo"], ("undo",), {"undo": 1}, None)

    def test_numbers_of_forty_digits(self):
        console = Console(Till(ONE, (5, 0)))
        self.answers(console, [("drop " + "9" * 40, "error NoOffer"), ("drop -" + "9" * 40, "error NoOffer"),
                               ("drop " + "9" * 41, UNKNOWN), ("drop -" + "9" * 41, UNKNOWN), ("drop " + "0" * 40, UNKNOWN),
                               ("drop 0" + "1" * 39, UNKNOWN), ("drop 1" + "0" * 39, "error NoOffer"), ("drop 0", "ok 1")])

    def test_changed_lines(self):
        found = {True: 0, False: 0}
        for line in ["use 0 1", "add 0 1 1 3", "drop 0", "give 1 20", "take 0 1", "undo", "rows", "purse", "loop", "most 1",
                     "spare 10"]:
            for place in range(len(line) + 1):
                for char in " 0129-+x\nus":
                    for told in (line[:place] + char + line[place:], line[:place] + char + line[place + 1:],
                                 line[:place] + line[place + 1:]):
                        for make in (lambda: Till(TWO, (5, 7)), lambda: SureTill(TWO, (5, 7), 0, 2)):
                            till, other = make(), make()
                            found[is_command(told, isinstance(till, SureTill))] += 1
                            self.assertEqual(Console(till).execute(told), plain_answer(other, told), told)
                            self.assertEqual(snapshot(till), snapshot(other))
        self.assertGreater(min(found.values()), 200)

    def test_plain_answers(self):
        rng = seeded(151)
        found = {}
        for _ in range(150):
            board = some_board(rng, rng.randint(1, 4), 4, 8)
            purse = tuple(rng.randint(0, 9) for _ in range(board[0]))
            till, other = Till(board, purse), Till(board, purse)
            console = Console(till)
            for _ in range(20):
                edit = some_edit(rng, other.board, other.purse)
                line = rng.choice([" ".join(map(str, edit)), "undo", "rows", "purse", "loop", f"most {rng.randint(-1, 3)}"])
                answer = console.execute(line)
                self.assertEqual(answer, plain_answer(other, line), line)
                found[answer.split(" ")[0]] = found.get(answer.split(" ")[0], 0) + 1
            self.assertEqual(snapshot(till), snapshot(other))
        self.assertGreater(found["ok"], 300)
        self.assertGreater(found["error"], 300)
        self.assertGreater(found["endless"], 2)
        self.assertEqual(Console(Till(D, (0, 3))).execute("most 1"), "endless")


if __name__ == "__main__":
    unittest.main()
