"""Boards, ways and purses as texts, and back."""

from smallchange.bounds import MAX_AMOUNT, MAX_KINDS, MAX_OFFERS, MAX_RUNS
from smallchange.errors import BadText
from smallchange.readers import Reader
from smallchange.ways import MAX_TIMES

LETTERS = "abcdefghijklmnopqrstuvwxyz"
LONGEST_NAME = 8
# amounts of purses have at most 40 digits
MAX_TOLD_AMOUNT = 10 ** 40 - 1


def board_text(names, board):
    """The text of the board."""
    lines = [" ".join(names)]
    for a, x, b, y in board[1]:
        lines.append(f"{x} {names[a]} -> {y} {names[b]}")
    return "\n".join(lines)


def parse_board(value):
    """(names, board) for the text of a board; BadText."""
    check_text(value)
    lines = value.split("\n")
    names = read_names(Reader(lines[0], 0))
    offers = {}
    for line, text in enumerate(lines[1:], 1):
        if line > MAX_OFFERS:
            raise BadText(line, None)
        offer = read_offer(Reader(text, line), names)
        if offer in offers:
            raise BadText(line, None)
        offers[offer] = True
    return names, (len(names), tuple(sorted(offers)))


def check_text(value):
    """Raises BadText for what is no text."""
    if not isinstance(value, str):
        raise BadText(None, None)


def read_names(reader):
    """The tuple of the names in the first line."""
    names = []
    while len(names) < MAX_KINDS:
        if names:
            reader.word(" ")
        names.append(read_name(reader, names))
        if reader.is_at_end():
            break
    reader.end()
    return tuple(names)


def read_name(reader, names):
    """A name that is unlike these names."""
    name = ""
    while len(name) < LONGEST_NAME and not reader.is_at_end() and reader.text[reader.place] in LETTERS:
        more = name + reader.text[reader.place]
        # a shorter name that is there can still go on
        reader.check(len(more) < LONGEST_NAME or more not in names)
        name = more
        reader.place += 1
    reader.check(name != "" and name not in names)
    return name


def read_offer(reader, names):
    """The offer in a line."""
    # with one kind there are no offers
    reader.check(len(names) > 1)
    x = reader.integer(1, MAX_AMOUNT)
    reader.word(" ")
    a = reader.one_of(names)
    reader.word(" -> ")
    y = reader.integer(0, MAX_AMOUNT)
    reader.word(" ")
    b = reader.one_of([name for name in names if name != a])
    reader.end()
    return names.index(a), x, names.index(b), y


def way_text(way):
    """The text of the way."""
    if len(way) == 0:
        return "none"
    return " ".join([step_text(step) for step in way])


def step_text(step):
    """The text of a run or a round."""
    first, times = step
    if isinstance(first, tuple):
        return f"{times}*({way_text(first)})"
    return str(first) if times == 1 else f"{first}x{times}"


def parse_way(value):
    """The way whose text this is; BadText."""
    check_text(value)
    reader = Reader(value, 0)
    if reader.is_at("n"):
        reader.word("none")
        reader.end()
        return ()
    steps = [read_step(reader, 0)]
    count = runs_in(steps[0])
    while not reader.is_at_end():
        reader.check(count < MAX_RUNS)
        reader.word(" ")
        steps.append(read_step(reader, count))
        count += runs_in(steps[-1])
    return tuple(steps)


def runs_in(step):
    """The number of runs in a step."""
    return len(step[0]) if isinstance(step[0], tuple) else 1


def read_step(reader, count):
    """A run or a round, behind steps with count runs."""
    number = reader.integer(0, MAX_TIMES)
    if number == 0 or not reader.is_at("*"):
        return number_run(reader, number)
    reader.word("*(")
    runs = [read_run(reader)]
    while not reader.is_at(")"):
        reader.check(count + len(runs) < MAX_RUNS)
        reader.word(" ")
        runs.append(read_run(reader))
    reader.word(")")
    return tuple(runs), number


def read_run(reader):
    """A run."""
    return number_run(reader, reader.integer(0, MAX_OFFERS - 1))


def number_run(reader, index):
    """A run of which the index is read."""
    reader.check(index < MAX_OFFERS)
    if not reader.is_at("x"):
        return index, 1
    reader.word("x")
    return index, reader.integer(2, MAX_TIMES)


def purse_text(names, purse):
    """The text of the purse."""
    parts = [f"{amount} {name}" for amount, name in zip(purse, names) if amount > 0]
    return " ".join(parts) if parts else "nothing"


def parse_purse(names, value):
    """The purse whose text this is; BadText."""
    check_text(value)
    reader = Reader(value, 0)
    amounts = [0] * len(names)
    if reader.is_at("n"):
        reader.word("nothing")
        reader.end()
        return tuple(amounts)
    first = 0
    while first == 0 or not reader.is_at_end():
        if first > 0:
            reader.check(first < len(names))
            reader.word(" ")
        amount = reader.integer(1, MAX_TOLD_AMOUNT)
        reader.word(" ")
        kind = names.index(reader.one_of(names[first:]))
        amounts[kind] = amount
        first = kind + 1
    return tuple(amounts)
