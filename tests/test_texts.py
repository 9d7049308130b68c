import re
import unittest

from plain import Unchanged, odd_values, seeded
from plain_boards import some_board, some_way
from smallchange.boards import board_error
from smallchange.errors import BadText
from smallchange.texts import board_text, parse_board, parse_purse, parse_way, purse_text, way_text

HUGE = 10 ** 30
NAMES = [("a",), ("pt", "mile"), ("a", "ab"), ("ab", "a", "abc"), ("n", "no", "non", "nothing"),
         ("abcdefgh", "abcdefgi", "abcdefg", "x"), ("x", "z", "nothing", "none")]
NUMBER = "(0|[1-9][0-9]*)"
CHARS = "01349xz anthb*()->\n"


def is_names(text):
    """Whether text is a line of names, by the words of point 18."""
    names = text.split(" ")
    return (1 <= len(names) <= 4 and len(set(names)) == len(names)
            and all(re.fullmatch("[a-z]{1,8}", name) for name in names))


def is_offer(names, text):
    found = re.fullmatch(NUMBER + " ([a-z]+) -> " + NUMBER + " ([a-z]+)", text)
    return (found is not None and 1 <= int(found[1]) <= 30 and found[2] in names and int(found[3]) <= 30
            and found[4] in names and found[2] != found[4])


def is_way_text(text):
    run = NUMBER + "(x" + NUMBER + ")?"
    count = 0
    if text == "none":
        return True
    # a line feed is no space
    for step in re.findall("[^ (]*[(][^)]*[)][^ ]*|[^ ]+|^$| (?= )|^ | $", text):
        inner = re.fullmatch(NUMBER + r"\*\((.*)\)", step, re.DOTALL)
        runs = inner[2].split(" ") if inner else [step]
        if inner and not 1 <= int(inner[1]) <= HUGE:
            return False
        for item in runs:
            found = re.fullmatch(run, item)
            if found is None or int(found[1]) > 39 or (found[3] is not None and not 2 <= int(found[3]) <= HUGE):
                return False
            count += 1
    return count <= 200


def is_purse(names, text):
    if text == "nothing":
        return True
    words = text.split(" ")
    kinds = [names.index(word) if word in names else -1 for word in words[1::2]]
    return (len(words) % 2 == 0 and kinds == sorted(set(kinds)) and -1 not in kinds
            and all(re.fullmatch("[1-9][0-9]{0,39}", word) for word in words[::2]))


def tails(texts):
    return [""] + [text[at:] for text in texts for at in range(len(text))]


NAMES_TAILS = list("abcdefghijklmnopqrstuvwxyz") + [""]
WAY_TAILS = ["", "0", "2", "(0)", "*(0)", ")", "0)", "2)"] + tails(["none"])


def offer_tails(names):
    return tails([f"1 {one} -> 1 {other}" for one in names for other in names if one != other])


def purse_tails(names):
    return tails(["nothing"] + [f"1 {name}" for name in names])


def first_wrong(text, is_right, ends):
    """The first place with which no text goes on, the length if it ends too early, None if it is right."""
    if is_right(text):
        return None
    for place in range(len(text)):
        if not any(is_right(text[:place + 1] + end) for end in ends):
            return place
    return len(text)


def plain_board_place(text):
    """(line, place) of what is wrong, None if nothing is."""
    lines = text.split("\n")
    place = first_wrong(lines[0], is_names, NAMES_TAILS)
    if place is not None:
        return 0, place
    names = lines[0].split(" ")
    for at, line in enumerate(lines[1:], 1):
        if at > 40:
            return at, None
        place = first_wrong(line, lambda told: is_offer(names, told), offer_tails(names))
        if place is not None:
            return at, place
        if line in lines[1:at]:
            return at, None
    return None


def changed(text, chars):
    """The text with each character exchanged, left out and put in twice, and with one more."""
    for place in range(len(text)):
        yield text[:place] + text[place + 1:]
        yield text[:place] + text[place] + text[place:]
        yield text[:place]
        for char in chars:
            yield text[:place] + char + text[place + 1:]
            yield text[:place] + char + text[place:]
    for char in chars:
        yield text + char


def boards(seed, count):
    rng = seeded(seed)
    for names in NAMES:
        yield names, (len(names), ())
    for _ in range(count):
        names = rng.choice(NAMES)
        yield names, some_board(rng, len(names), rng.choice([2, 5, 12]), 30)


def ways(seed, count):
    rng = seeded(seed)
    board = (2, tuple((0, 1 + at % 30, 1, at // 30) for at in range(40)))
    yield from [(), ((0, 1),), ((39, HUGE),), ((((0, 1),), 1),), ((((39, HUGE), (0, 1)), HUGE), (7, 2)), ((0, 1),) * 200]
    for _ in range(count):
        yield some_way(rng, board, 6, rng.choice([1, 3, 12, HUGE]))


class TextCase(unittest.TestCase):
    def bad(self, line, place, call, *arguments):
        with self.assertRaises(BadText) as caught:
            call(*arguments)
        self.assertEqual((caught.exception.line, caught.exception.place), (line, place), arguments)

    def no_texts(self, call, *names):
        for value in odd_values() + [b"none", ("none",), ["a"], 0, {"a": 1}]:
            if not isinstance(value, str):
                before = repr(value)
                self.bad(None, None, call, *names, value)
                self.assertEqual(repr(value), before)


class BoardTextTest(TextCase):
    def test_example(self):
        self.assertEqual(board_text(('pt', 'mile'), (2, ((0, 3, 1, 2), (1, 5, 0, 0)))),
                         'pt mile\n3 pt -> 2 mile\n5 mile -> 0 pt')
        self.assertEqual(parse_board('pt mile\n5 mile -> 0 pt\n3 pt -> 2 mile'),
                         (('pt', 'mile'), (2, ((0, 3, 1, 2), (1, 5, 0, 0)))))
        for text, line, place in [('pt mile\n3 pt -> 31 mile', 1, 9), ('pt mile\n3 pt -> 2 pt', 1, 10), ('a a', 0, 3),
                                  ('a\n1', 1, 0)]:
            self.bad(line, place, parse_board, text)

    def test_there_and_back(self):
        rng = seeded(111)
        for names, board in boards(112, 200):
            with Unchanged(self, names, board):
                text = board_text(names, board)
            self.assertEqual(parse_board(text), (names, board))
            self.assertIsNone(plain_board_place(text))
            lines = text.split("\n")
            rest = lines[1:]
            rng.shuffle(rest)
            told = parse_board("\n".join(lines[:1] + rest))
            self.assertEqual(told, (names, board))
            self.assertIsNone(board_error(told[1]))

    def holds(self, text):
        """Whether text is right; if it is not, the very place is told."""
        expected = plain_board_place(text)
        if expected is None:
            names, board = parse_board(text)
            self.assertEqual(sorted(board_text(names, board).split("\n")), sorted(text.split("\n")))
            return True
        self.bad(*expected, parse_board, text)
        return False

    def test_changed_texts(self):
        found = {True: 0, False: 0}
        for names, board in boards(113, 6):
            for text in changed(board_text(names, (board[0], board[1][:2])), CHARS):
                found[self.holds(text)] += 1
        for text in changed("\n".join(["a b", "1 a -> 1 b", "1 a -> 10 b", "30 b -> 3 a", "2 b -> 0 a"]), CHARS):
            found[self.holds(text)] += 1
        self.assertGreater(min(found.values()), 1000)

    def test_names(self):
        for text in ["a", "z" * 8, "a b c d", "abcdefgh abcdefg abcdef abcde", "aaaaaaab aaaaaaaa"]:
            self.assertEqual(parse_board(text), (tuple(text.split(" ")), (len(text.split(" ")), ())))
        for text, place in [("", 0), (" ", 0), (" a", 0), ("a ", 2), ("a  b", 2), ("a" * 9, 8), ("a b c d e", 7),
                            ("a b c d ", 7), ("a b a", 5), ("a b a ", 5), ("a b ab a", 8), ("A", 0), ("aB", 1),
                            ("abcdefgh abcdefgh", 16), ("abcdefgh abcdefg", None), ("1", 0), ("a,b", 1), ("a b c a1", 7),
                            ("~", 0), ("a" * 3000, 8), ("a a b", 3), ("a -> b", 2)]:
            if place is not None:
                self.bad(0, place, parse_board, text)
            self.holds(text)

    def test_offers(self):
        for text, place in [("", 0), ("0", 0), ("0 a -> 1 b", 0), ("1", 1), ("31 a -> 1 b", 1), ("300 a -> 1 b", 2),
                            ("01 a -> 1 b", 0), ("1  a -> 1 b", 2), ("1 a -> 00 b", 8), ("1 a -> 01 b", 8),
                            ("1 a -> 1 a", 10), ("1 a -> 1 ", 9), ("1 a -> 1 b ", 10), ("1 a -> 1 bb", 10),
                            ("1 a -> 1 abc", 11), ("1 a -> 31 ab", 8), ("1 c -> 1 b", 2), ("1 a > 1 b", 4),
                            ("1 a - > 1 b", 5), ("-1 a -> 1 b", 0), ("1 ab-> 1 a", 4), ("1 a -> +1 b", 7),
                            ("1 a -> 30", 9), ("1 ab -> 1 ab", 11), ("1 ab -> 1 a", None), ("30 a -> 30 ab", None)]:
            text = "a ab b\n1 a -> 29 b\n" + text
            if place is not None:
                self.bad(2, place, parse_board, text)
            self.holds(text)
        # one name goes on as another one: behind the first one only the other is left
        self.bad(1, 11, parse_board, "ab a\n1 ab -> 1 ab")
        self.holds("a ab\n1 a -> 1 a")
        self.bad(1, 10, parse_board, "a ab\n1 a -> 1 a")

    def test_the_first_wrong_line_is_told(self):
        self.bad(0, 0, parse_board, "\n1 a -> 1 b")
        self.bad(1, 0, parse_board, "a b\n\n1 a -> 1 b")
        self.bad(2, 0, parse_board, "a b\n1 a -> 1 b\n")
        self.bad(1, 5, parse_board, "a b\n1 a -!\n1 a -> 1 b\n1 a -> 1 b")
        self.bad(2, None, parse_board, "a b\n1 a -> 1 b\n1 a -> 1 b\nx")
        self.bad(3, None, parse_board, "a b\n1 a -> 1 b\n2 a -> 1 b\n1 a -> 1 b")
        self.bad(1, 0, parse_board, "a\n1 a -> 1 b\n" * 50)
        self.bad(1, 0, parse_board, "a\n")

    def test_forty_offers_and_one_more(self):
        lines = ["a b"] + [f"{x} {'ab'[side]} -> {y} {'ba'[side]}" for x in range(1, 11) for y in (0, 30) for side in (0, 1)]
        self.assertEqual(len(parse_board("\n".join(lines))[1][1]), 40)
        for line in ["11 a -> 1 b", "1 a -> 0 b", "", "x", "?" * 500]:
            self.bad(41, None, parse_board, "\n".join(lines + [line]))
            self.bad(41, None, parse_board, "\n".join(lines + [line, "", "y"]))
        # a wrong line ahead of it comes first
        self.bad(40, 0, parse_board, "\n".join(lines[:40] + ["", "1"]))
        self.bad(40, None, parse_board, "\n".join(lines[:40] + [lines[1], "1"]))

    def test_any_value(self):
        self.no_texts(parse_board)
        self.bad(0, 8, parse_board, "a" * 3000)
        self.bad(1, 0, parse_board, "ab cd" + "\n" * 2000)


class WayTextTest(TextCase):
    def test_example(self):
        answers = [way_text(((0, 2), (3, 1))), way_text(((((0, 2), (1, 1)), 30), (1, 1))), way_text(())]
        self.assertEqual(answers, ['0x2 3', '30*(0x2 1) 1', 'none'])
        self.assertEqual(parse_way('30*(0x2 1) 1'), ((((0, 2), (1, 1)), 30), (1, 1)))
        self.bad(0, 5, parse_way, '0x2 03')

    def test_there_and_back(self):
        for way in ways(114, 400):
            with Unchanged(self, way):
                text = way_text(way)
            self.assertTrue(is_way_text(text), text)
            self.assertEqual(parse_way(text), way)
        self.assertEqual(way_text(((((3, 1),), 1),)), "1*(3)")
        self.assertEqual(parse_way("1*(0)"), ((((0, 1),), 1),))

    def holds(self, text):
        place = first_wrong(text, is_way_text, WAY_TAILS)
        if place is None:
            self.assertEqual(way_text(parse_way(text)), text)
            return True
        self.bad(0, place, parse_way, text)
        return False

    def test_changed_texts(self):
        found = {True: 0, False: 0}
        for way in list(ways(115, 25))[:5] + list(ways(115, 25))[6:]:
            for text in changed(way_text(way)[:60], CHARS):
                found[self.holds(text)] += 1
        for first in CHARS:
            for second in CHARS:
                for third in "0123x *()n":
                    found[self.holds(first + second + third)] += 1
        self.assertGreater(min(found.values()), 1000)

    def test_places(self):
        most = str(HUGE)
        for text, place in [("", 0), ("n", 1), ("none", None), ("none ", 4), ("nonee", 4), ("no ne", 2), (" none", 0),
                            ("0", None), ("00", 1), ("0x1", 3), ("0x1 2", 3), ("0x10", None), ("0x0", 2), ("0x", 2),
                            ("39", None), ("40", 2), ("40 1", 2), ("40x2", 2), ("40*(1)", None), ("0*(1)", 1), ("1*(", 3),
                            ("1*()", 3), ("1*(0", 4), ("1*(40)", 4), ("1*(0 )", 5), ("1*(0))", 5), ("1*(2*(0))", 4),
                            ("1*(0)2", 5), ("1*(0) ", 6), ("1*(0)x2", 5), ("1 *(0)", 2), ("1* (0)", 2), ("x2", 0),
                            ("0x" + most, None), ("0x" + most[:-1] + "1", 32), ("0x" + most + "0", 33),
                            (most + "*(0)", None), (most[:-1] + "1*(0)", 30), (most + "0*(0)", 31), (most, 31),
                            ("9" * 3000, 30), ("0x" + "9" * 3000, 32), ("0x2x2", 3), ("1  2", 2), ("1 2 ", 4), ("-1", 0),
                            ("1\n2", 1), ("none none", 4), ("1 none", 2), ("1*(none)", 3), ("+1", 0), ("1,2", 1)]:
            if place is not None:
                self.bad(0, place, parse_way, text)
            self.holds(text)

    def test_200_runs_and_one_more(self):
        text = way_text(((5, 1),) * 200)
        self.assertEqual(parse_way(text), ((5, 1),) * 200)
        for more in (" 5", " ", " 1*(5)", "\n"):
            self.bad(0, len(text), parse_way, text + more)
        self.assertEqual(parse_way(text + "x2")[-1], (5, 2))
        text = way_text((((((5, 1),) * 120, 3), (7, 1), (((5, 1),) * 79, HUGE))))
        self.assertEqual(way_text(parse_way(text)), text)
        self.bad(0, len(text), parse_way, text + " 5")
        self.bad(0, len(text) - 1, parse_way, text[:-1] + " 5)")
        self.bad(0, len(text) - 1, parse_way, text[:-1])
        self.bad(0, len(text) - 1, parse_way, text[:-1] + " ")
        text = way_text(((((5, 1),) * 200, 7),))
        self.assertEqual(parse_way(text), ((((5, 1),) * 200, 7),))
        self.bad(0, len(text) - 1, parse_way, text[:-1] + " 5)")
        self.bad(0, len(text), parse_way, text + " 5")
        # texts of ways in results can have more runs, and are too long
        long = way_text(((5, 12), (6, 1)) * 50000)
        self.bad(0, len("5x12 6 " * 100) - 1, parse_way, long)
        self.assertEqual(long[:14], "5x12 6 5x12 6 ")

    def test_any_value(self):
        self.no_texts(parse_way)


class PurseTextTest(TextCase):
    def test_example(self):
        answers = [purse_text(('pt', 'mile'), (5, 0)), purse_text(('pt', 'mile'), (0, 0)),
                   parse_purse(('pt', 'mile'), '5 pt 1 mile')]
        self.assertEqual(answers, ['5 pt', 'nothing', (5, 1)])
        self.bad(0, 6, parse_purse, ('pt', 'mile'), '1 mile 5 pt')

    def test_there_and_back(self):
        rng = seeded(116)
        for names in NAMES:
            for most in (0, 1, 12, 10 ** 40 - 1):
                for _ in range(20):
                    purse = tuple(rng.choice([0, most, rng.randint(0, most)]) for _ in names)
                    with Unchanged(self, names, purse):
                        text = purse_text(names, purse)
                    self.assertTrue(is_purse(names, text), text)
                    self.assertEqual(parse_purse(names, text), purse)
        self.assertEqual(purse_text(("a", "b"), (10 ** 60, 0)), "1" + "0" * 60 + " a")
        self.bad(0, 40, parse_purse, ("a", "b"), purse_text(("a", "b"), (10 ** 60, 0)))

    def holds(self, names, text):
        place = first_wrong(text, lambda told: is_purse(names, told), purse_tails(names))
        if place is None:
            self.assertEqual(purse_text(names, parse_purse(names, text)), text)
            return True
        self.bad(0, place, parse_purse, names, text)
        return False

    def test_changed_texts(self):
        found = {True: 0, False: 0}
        for names in NAMES:
            for purse in [(0,) * len(names), (5,) + (0,) * (len(names) - 1), tuple(range(1, len(names) + 1)),
                          (0,) * (len(names) - 1) + (10,)]:
                for text in changed(purse_text(names, purse), CHARS):
                    found[self.holds(names, text)] += 1
        self.assertGreater(min(found.values()), 500)

    def test_places(self):
        names = ("a", "ab", "nothing")
        for text, place in [("", 0), ("n", 1), ("nothing", None), ("nothing ", 7), ("1", 1), ("1 ", 2), ("0 a", 0),
                            ("01 a", 0), ("1 a", None), ("1 ab", None), ("1 abc", 4), ("1 b", 2), ("1  a", 2),
                            ("1 a ", 4), ("1 a 2", 5), ("1 a 2 a", 7), ("1 a 2 ab", None), ("1 ab 2 a", 7),
                            ("1 ab 2 nothing", None), ("1 nothing 2 a", 9), ("1 nothing ", 9), ("1a", 1), ("-1 a", 0),
                            ("1" * 40 + " a", None), ("1" * 41 + " a", 40), ("1 a\n", 3), ("9" * 3000, 40), (" 1 a", 0),
                            ("1 nothin", 8), ("1 nothingg", 9), ("nothing 1 a", 7), ("1 a nothing", 4)]:
            if place is not None:
                self.bad(0, place, parse_purse, names, text)
            self.holds(names, text)
        self.bad(0, 3, parse_purse, ("a",), "1 a 1 a")

    def test_any_value(self):
        self.no_texts(parse_purse, ("pt", "mile"))
        self.no_texts(parse_purse, ("a",))


if __name__ == "__main__":
    unittest.main()
