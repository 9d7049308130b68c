"""A console: a till by lines of text."""

from smallchange.errors import ChangeError, NoKind, NoOffer
from smallchange.tills import EDITS, SureTill
from smallchange.words import number_in, spaced

UNKNOWN = "unknown command"
# the names of the other commands, and how many numbers each takes
OTHERS = {"undo": 0, "rows": 0, "purse": 0, "loop": 0, "most": 1, "spare": 1}


class Console:
    """Works on a till, which may be edited besides."""

    def __init__(self, till):
        self.till = till

    def execute(self, line):
        """The answer to a line."""
        if not isinstance(line, str):
            return UNKNOWN
        name, *words = line.split(" ")
        numbers = [number_in(word) for word in words]
        if None in numbers or not self.is_command(name, len(numbers)):
            return UNKNOWN
        try:
            return self.answer(name, numbers)
        except (ChangeError, NoKind, NoOffer) as e:
            return "error " + e.__class__.__name__

    def is_command(self, name, count):
        """Whether there is a command with this name and so many numbers."""
        if name in EDITS:
            return count == EDITS[name]
        if name == "spare" and not isinstance(self.till, SureTill):
            return False
        return name in OTHERS and count == OTHERS[name]

    def answer(self, name, numbers):
        """The answer to a command; errors of the till."""
        if name in EDITS or name == "undo":
            version = self.till.undo() if name == "undo" else self.till.do_edit((name, *numbers))
            return f"ok {version}"
        if name == "rows":
            return ", ".join([spaced(offer) for offer in self.till.board[1]]) or "none"
        if name == "purse":
            return spaced(self.till.purse)
        if name == "loop":
            return "none" if self.till.loop is None else spaced(self.till.loop)
        if name == "most":
            return told_most(self.till.most(numbers[0]))
        return str(self.till.reserve.spare(numbers[0]))


def told_most(result):
    """The greatest amount, or "endless"."""
    return str(result[1]) if result[0] == "most" else "endless"
