"""Words with one space between two."""

DIGITS = "0123456789"
LONGEST_NUMBER = 40


def spaced(items):
    """The text of the items with one space between two."""
    return " ".join([str(item) for item in items])


def number_in(word):
    """The integer that is written in the word, or None."""
    digits = word[1:] if word.startswith("-") else word
    if not 1 <= len(digits) <= LONGEST_NUMBER or not all([char in DIGITS for char in digits]):
        return None
    if digits[0] == "0" and word != "0":
        return None
    return int(word)
