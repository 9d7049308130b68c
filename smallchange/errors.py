"""The errors of the package: each has its fields as attributes."""


class ChangeError(ValueError):
    """The base of the errors that are no failed look-ups."""


class TooLong(ChangeError):
    """The table of the rule would have number members, which is too many."""

    def __init__(self, number):
        self.number = number


class BadRule(ChangeError):
    """This is no rule; error is the word of rule_error."""

    def __init__(self, error):
        self.error = error


class NoStart(ChangeError):
    """The value at 0 is not 0."""

    def __init__(self, value):
        self.value = value


class NoRise(ChangeError):
    """The rule does not rise, so it has no inverse."""


class Stuck(ChangeError):
    """The step with this index cannot be walked to its end."""

    def __init__(self, index):
        self.index = index


class BadLoop(ChangeError):
    """These indexes are no loop that gains and takes no kind twice."""

    def __init__(self, indexes):
        self.indexes = indexes


class Endless(ChangeError):
    """There is no end to what can be had."""


class TooMany(ChangeError):
    """There are more than the document allows."""


class Poor(ChangeError):
    """The purse has too little of this kind to be rich."""

    def __init__(self, kind):
        self.kind = kind


class BadPurse(ChangeError):
    """This is no purse."""

    def __init__(self, value):
        self.value = value


class NotEnough(ChangeError):
    """There is less of this kind than is taken."""

    def __init__(self, kind):
        self.kind = kind


class OtherKinds(ChangeError):
    """The numbers of kinds are unlike."""


class NoNumber(ChangeError):
    """This is no integer from 0 on."""

    def __init__(self, value):
        self.value = value


class NoAmount(ChangeError):
    """The rule is asked for what is no amount."""

    def __init__(self, value):
        self.value = value


class TooGreat(ChangeError):
    """The desk with this index has a needed use beyond the amounts of offers."""

    def __init__(self, index):
        self.index = index


class BadText(ChangeError):
    """The text goes wrong at this place of this line."""

    def __init__(self, line, place):
        self.line = line
        self.place = place


class BadBoard(ChangeError):
    """This is no board; error is the result of board_error."""

    def __init__(self, error):
        self.error = error


class BadAmount(ChangeError):
    """This is no amount that is allowed here."""

    def __init__(self, value):
        self.value = value


class BadTimes(ChangeError):
    """This is no number of times that is allowed here."""

    def __init__(self, value):
        self.value = value


class BadOffer(ChangeError):
    """This is no offer of the board's kinds."""

    def __init__(self, value):
        self.value = value


class OfferThere(ChangeError):
    """The board has this offer."""


class TooManyOffers(ChangeError):
    """The board has as many offers as are allowed."""


class TooLittle(ChangeError):
    """There is only this amount, which is too little."""

    def __init__(self, amount):
        self.amount = amount


class TooFull(ChangeError):
    """The purse would have too much of this kind."""

    def __init__(self, kind):
        self.kind = kind


class NotSmall(ChangeError):
    """The board or the purse is not small."""


class Gains(ChangeError):
    """The board has a loop that gains."""

    def __init__(self, loop):
        self.loop = loop


class Busy(ChangeError):
    """A watch of the till is running."""


class TooManyEdits(ChangeError):
    """As many edits stand as are allowed."""


class NothingToUndo(ChangeError):
    """No edit stands."""


class BadEdits(ChangeError):
    """This is no list or tuple of few enough edits."""


class BadEdit(ChangeError):
    """The item with this index is no edit."""

    def __init__(self, index):
        self.index = index


class Rejected(ChangeError):
    """The edit with this index raised an error."""

    def __init__(self, index):
        self.index = index


class NoKind(LookupError):
    """This is no kind."""

    def __init__(self, kind):
        self.kind = kind


class NoOffer(LookupError):
    """There is no offer with this index."""

    def __init__(self, index):
        self.index = index


class NoVersion(LookupError):
    """There is no such version."""

    def __init__(self, value):
        self.value = value
