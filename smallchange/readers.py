"""Reading texts from left to right, up to the first place with which no text goes on."""

from smallchange.errors import BadText
from smallchange.words import DIGITS


class Reader:
    """One line of a text, and the place up to which it is read.

    Whatever is read must be right: where it cannot go on, or ends too early,
    BadText tells the line and the place.
    """

    def __init__(self, text, line):
        self.text = text
        self.line = line
        self.place = 0

    def is_at(self, char):
        """Whether this character stands at the place; none does at the end."""
        return self.text[self.place:self.place + 1] == char

    def is_at_end(self):
        """Whether all of the line is read."""
        return self.place == len(self.text)

    def check(self, right):
        """Raises BadText with the place if it is not right to go on."""
        if not right:
            raise BadText(self.line, self.place)

    def word(self, word):
        """Reads this word."""
        for char in word:
            self.check(self.is_at(char))
            self.place += 1

    def integer(self, low, high):
        """Reads and returns an integer from low to high, without leading zeros."""
        self.check(not self.is_at_end() and self.text[self.place] in DIGITS)
        self.check(low == 0 or not self.is_at("0"))
        number = int(self.text[self.place])
        self.place += 1
        while number > 0 and not self.is_at_end() and self.text[self.place] in DIGITS:
            more = 10 * number + int(self.text[self.place])
            # a lesser number than this one can still become it
            self.check(more <= high)
            number = more
            self.place += 1
        self.check(number >= low)
        return number

    def one_of(self, names):
        """Reads and returns one of the names."""
        start = self.place
        while not self.is_at_end() and begins_one(names, self.text[start:self.place + 1]):
            self.place += 1
        name = self.text[start:self.place]
        self.check(name in names)
        return name

    def end(self):
        """Raises BadText if something is left."""
        self.check(self.is_at_end())


def begins_one(names, start):
    """Whether one of the names begins so."""
    return any([name.startswith(start) for name in names])
