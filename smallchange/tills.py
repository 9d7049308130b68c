"""Tills: a board and a purse that are edited, with undo."""

from smallchange.boards import board_error, is_offer, is_purse, is_small
from smallchange.bounds import BATCH, MAX_OFFERS, MAX_PURSE, MAX_TOGETHER
from smallchange.checks import is_within
from smallchange.covers import most
from smallchange.errors import BadAmount, BadBoard, BadEdit, BadEdits, BadOffer, BadPurse, BadTimes, Busy
from smallchange.errors import ChangeError, Gains, NoKind, NoOffer, NothingToUndo, NotSmall, NoVersion, OfferThere
from smallchange.errors import Rejected, Stuck, TooFull, TooLittle, TooManyEdits, TooManyOffers
from smallchange.prices import worths
from smallchange.promises import Reserve
from smallchange.words import spaced

# the names of the edits, and how many values each takes
EDITS = {"use": 2, "add": 4, "drop": 1, "give": 2, "take": 2}


class Till:
    """A board and a purse, always as they are behind the edits that stand.

    _states has (board, purse, loop) for each version, the present one too;
    promise is None, or what a SureTill promised.
    """

    # the number MAX_EDITS
    MOST_EDITS = 60

    def __init__(self, board, purse):
        wrong = board_error(board)
        if wrong is not None:
            raise BadBoard(wrong)
        if not is_purse(board[0], purse):
            raise BadPurse(purse)
        self.board = board
        self.purse = purse
        self.loop = loop_of(board)
        self.promise = None
        self._states = ((board, purse, self.loop),)
        self._edits = ()
        self._busy = False

    def __eq__(self, other):
        return (isinstance(other, Till) and self.board == other.board and self.purse == other.purse
                and self.promise == other.promise)

    def __len__(self):
        return len(self._edits)

    def __str__(self):
        return f"{len(self.board[1])} offers, purse {spaced(self.purse)}, {len(self._edits)} edits"

    def use(self, index, times):
        """Uses the offer with this index so many times; the new version."""
        self.check_open()
        self.check_index(index)
        if not is_within(times, 1, MAX_PURSE):
            raise BadTimes(times)
        a, x, b, y = self.board[1][index]
        if self.purse[a] < times * x:
            raise Stuck(0)
        purse = changed(self.purse, a, -times * x)
        return self.stand(("use", index, times), self.board, filled(purse, b, times * y))

    def add(self, a, x, b, y):
        """Adds an offer to the board; the new version."""
        self.check_open()
        kinds, offers = self.board
        offer = (a, x, b, y)
        if not is_offer(kinds, offer):
            raise BadOffer(offer)
        if offer in offers:
            raise OfferThere()
        if len(offers) >= MAX_OFFERS:
            raise TooManyOffers()
        return self.stand(("add", a, x, b, y), (kinds, tuple(sorted([*offers, offer]))), self.purse)

    def drop(self, index):
        """Removes the offer with this index; the new version."""
        self.check_open()
        self.check_index(index)
        kinds, offers = self.board
        return self.stand(("drop", index), (kinds, offers[:index] + offers[index + 1:]), self.purse)

    def give(self, kind, amount):
        """Puts an amount of a kind into the purse; the new version."""
        self.check_amount(kind, amount)
        return self.stand(("give", kind, amount), self.board, filled(self.purse, kind, amount))

    def take(self, kind, amount):
        """Takes an amount of a kind out of the purse; the new version."""
        self.check_amount(kind, amount)
        if self.purse[kind] < amount:
            raise TooLittle(self.purse[kind])
        return self.stand(("take", kind, amount), self.board, changed(self.purse, kind, -amount))

    def undo(self):
        """Removes the last edit that stands; the new version."""
        self.check_idle()
        if len(self._edits) == 0:
            raise NothingToUndo()
        self._edits = self._edits[:-1]
        self._states = self._states[:-1]
        self.board, self.purse, self.loop = self._states[-1]
        return len(self._edits)

    def attempt(self, edits, *, watch=None):
        """Does all edits, or up to the one behind which watch says so, or none; how many were done."""
        self.check_idle()
        batch = checked_batch(edits)
        board, purse, loop = self.board, self.purse, self.loop
        old_states, old_edits = self._states, self._edits
        done = None
        try:
            done = self.do_all(batch, watch)
        finally:
            if done is None:
                self.board, self.purse, self.loop = board, purse, loop
                self._states, self._edits = old_states, old_edits
        return done

    def do_all(self, batch, watch):
        """Does the edits up to the one behind which watch says so; how many were done."""
        for index, edit in enumerate(batch):
            self.do_one(edit, index)
            if watch is not None and self.is_enough(watch):
                return index + 1
        return len(batch)

    def do_one(self, edit, index):
        """Does the edit of a batch with this index; Rejected if it raises an error."""
        try:
            self.do_edit(edit)
        except (ChangeError, NoKind, NoOffer):
            raise Rejected(index)

    def do_edit(self, edit):
        """Does an edit, a tuple of the name and the values; the new version."""
        name, *values = edit
        if name == "use":
            return self.use(*values)
        if name == "add":
            return self.add(*values)
        if name == "drop":
            return self.drop(*values)
        if name == "give":
            return self.give(*values)
        return self.take(*values)

    def is_enough(self, watch):
        """Whether watch returns what counts as true; meanwhile nothing can be edited."""
        self._busy = True
        try:
            return bool(watch(self))
        finally:
            self._busy = False

    def stand(self, edit, board, purse):
        """Makes an edit stand behind which these are the board and the purse; the new version."""
        loop = self.loop if board == self.board else loop_of(board)
        self.check_promise(loop, purse)
        self.board, self.purse, self.loop = board, purse, loop
        self._states += ((board, purse, loop),)
        self._edits += (edit,)
        return len(self._edits)

    def check_promise(self, loop, purse):
        """Raises an error for a loop or a purse that is not allowed: here all are."""

    def check_idle(self):
        """Raises Busy while a watch of this till runs."""
        if self._busy:
            raise Busy()

    def check_open(self):
        """Raises Busy, or TooManyEdits if no edit more can stand."""
        self.check_idle()
        if len(self._edits) >= self.MOST_EDITS:
            raise TooManyEdits()

    def check_index(self, index):
        """Raises NoOffer for what is no index of an offer."""
        if not is_within(index, 0, len(self.board[1]) - 1):
            raise NoOffer(index)

    def check_amount(self, kind, amount):
        """Raises the errors that give and take have in common."""
        self.check_open()
        self.check_kind(kind)
        if not is_within(amount, 0, MAX_PURSE):
            raise BadAmount(amount)

    def check_kind(self, kind):
        """Raises NoKind for what is no kind of the board."""
        if not is_within(kind, 0, self.board[0] - 1):
            raise NoKind(kind)

    def most(self, kind):
        """What most of covers tells of the kind, for a small board and purse."""
        self.check_kind(kind)
        if not is_small(self.board) or sum(self.purse) > MAX_TOGETHER:
            raise NotSmall()
        return most(self.board, self.purse, kind)

    def state(self, *, version=None):
        """(board, purse), as they are now or were in this version."""
        board, purse, _ = self._states[-1 if version is None else self.checked_version(version)]
        return board, purse

    def checked_version(self, version):
        """The version, if there is such a one; NoVersion."""
        if not is_within(version, 0, len(self._edits)):
            raise NoVersion(version)
        return version

    def each_offer(self, *, version=None):
        """Yields (index, times) for each offer: how often the amount that it takes is there."""
        board, purse = self.state(version=version)
        for index, offer in enumerate(board[1]):
            yield index, purse[offer[0]] // offer[1]

    def edits(self):
        """The tuple of the edits that stand."""
        return self._edits


class SureTill(Till):
    """A till that never gains, and has never less of a kind than it promised, but by undo."""

    def __init__(self, board, purse, kind, least):
        Till.__init__(self, board, purse)
        self.check_kind(kind)
        self.reserve = Reserve(kind, least)
        self.promise = (kind, least)
        self.check_promise(self.loop, self.purse)

    def check_promise(self, loop, purse):
        """Raises Gains for a loop, and TooLittle for a purse that has less than promised."""
        if loop is not None:
            raise Gains(loop)
        self.reserve.spare(purse[self.reserve.kind])


def loop_of(board):
    """The loop that worths tells, or None if it tells prices."""
    word, told = worths(board)
    return told if word == "loop" else None


def changed(purse, kind, more):
    """The purse with so much more of the kind."""
    return tuple([amount + more if at == kind else amount for at, amount in enumerate(purse)])


def filled(purse, kind, more):
    """The purse with so much more of the kind; TooFull."""
    if purse[kind] + more > MAX_PURSE:
        raise TooFull(kind)
    return changed(purse, kind, more)


def checked_batch(edits):
    """A copy of the edits; BadEdits, BadEdit."""
    if not isinstance(edits, (list, tuple)) or len(edits) > BATCH:
        raise BadEdits()
    batch = list(edits)
    for index, edit in enumerate(batch):
        if not is_edit(edit):
            raise BadEdit(index)
    return batch


def is_edit(value):
    """Whether value is a tuple of the name of an edit and as many values as it takes."""
    if not isinstance(value, tuple) or len(value) == 0 or not isinstance(value[0], str):
        return False
    return value[0] in EDITS and len(value) == 1 + EDITS[value[0]]
