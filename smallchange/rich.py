"""What comes of rich purses: weights, finitely many classes, and bounds."""

from smallchange.boards import is_purse
from smallchange.bounds import MAX_CLASSES, MAX_LACKS, RICH
from smallchange.checks import is_whole
from smallchange.classes import classes_for
from smallchange.errors import BadPurse, Poor, TooMany
from smallchange.lattices import Lattice, less
from smallchange.ways import joined


def weights(board, kind):
    """The weights of all kinds for the goal kind."""
    return classes_for(board, kind).weights


def losses(board, kind):
    """The losses of all offers."""
    return classes_for(board, kind).losses


def order(board, kind):
    """The number of classes."""
    return classes_for(board, kind).lattice.order()


def is_one_class(board, kind, one, other):
    """Whether two purses are in one class."""
    classes = classes_for(board, kind)
    for purse in (one, other):
        check_purse(board, purse)
    return classes.class_of(one) == classes.class_of(other)


def check_purse(board, purse):
    """Raises BadPurse for what is no purse of the board."""
    if not is_purse(board[0], purse):
        raise BadPurse(purse)


def check_order(classes, most):
    """Raises TooMany if there are more than most classes."""
    if classes.lattice.order() > most:
        raise TooMany()


def purse_classes(board, kind, purse):
    """The classes, of which there are not too many, for a purse; all errors up to TooMany."""
    classes = classes_for(board, kind)
    check_purse(board, purse)
    check_order(classes, MAX_CLASSES)
    return classes


def lack(board, kind, purse):
    """The lack of the purse."""
    classes = purse_classes(board, kind, purse)
    return classes.paths()[classes.class_of(purse)][0]


def bound(board, kind, purse):
    """The bound of the purse."""
    classes = purse_classes(board, kind, purse)
    missing = classes.paths()[classes.class_of(purse)][0]
    return (classes.worth_of(purse) - missing) // classes.weights[kind]


def rich_way(board, kind, purse):
    """A way behind which a rich purse has just its bound of the goal."""
    classes = purse_classes(board, kind, purse)
    for one in classes.counted:
        if purse[one] < RICH:
            raise Poor(one)
    rest = classes.placed(purse)
    rest, lossy = lossy_runs(classes, rest)
    rest, mending = mending_runs(classes, rest)
    return joined(lossy + mending + last_runs(classes, rest))


def lossy_runs(classes, rest):
    """What is left behind runs of the offers on a path of least losses, and these runs.

    What is thrown away on this path does not count as left.
    """
    paths = classes.paths()
    times = {}
    _, move, after = paths[classes.lattice.reduced(rest)]
    while move is not None:
        rest = less(rest, move.vector, -1)
        if move.index is not None:
            times[move.index] = times.get(move.index, 0) + 1
        _, move, after = paths[after]
    return rest, sorted(times.items())


def mending_runs(classes, rest):
    """What is left behind runs of tight offers so that the last runs use it up, and these runs.

    There are less uses in all than classes by the last offers alone, of
    which there are at most 27000: so a rich purse has enough for all of them.
    """
    lattice = Lattice(len(classes.places), [classes.vector_of(offer) for _, offer in last_offers(classes)])
    steps = []
    for move in classes.tight:
        if not lattice.has(move.vector):
            steps.append((move, lattice))
            lattice = Lattice(len(classes.places), list(lattice.rows) + [move.vector])
    runs = []
    for move, part in steps[::-1]:
        times = 0
        while not part.has(rest):
            rest = less(rest, move.vector, -1)
            times += 1
        if times > 0:
            runs.append((move.index, times))
    return rest, runs


def last_offers(classes):
    """Pairs (index, offer) of a tight offer for each kind but the goal, those farther off first."""
    trails = sorted([classes.trails[kind] for kind in classes.places], key=len, reverse=True)
    return [(trail[0], classes.board[1][trail[0]]) for trail in trails]


def last_runs(classes, rest):
    """Runs that make goal of all that is left."""
    amounts = [0] * classes.board[0]
    for kind, amount in zip(classes.places, rest):
        amounts[kind] = amount
    runs = []
    for index, (a, x, b, y) in last_offers(classes):
        # of each of these kinds a rich purse has at least 30 left, so times is not 0
        times = amounts[a] // x
        runs.append((index, times))
        amounts[b] += times * y
    return runs


def lacks(board, kind):
    """The ascending tuple of (least purse, lack) of all classes."""
    classes = classes_for(board, kind)
    check_order(classes, MAX_LACKS)
    paths = classes.paths()
    pairs = []
    for vector in classes.lattice.all_reduced():
        amounts = [0] * board[0]
        for place, amount in zip(classes.places, vector):
            amounts[place] = amount
        pairs.append((tuple(amounts), paths[vector][0]))
    return tuple(pairs)


def lacks_hold(board, kind, value):
    """Whether any value is a tuple as lacks tells it, with any purses of the classes."""
    classes = classes_for(board, kind)
    check_order(classes, MAX_LACKS)
    if not isinstance(value, tuple) or len(value) != classes.lattice.order():
        return False
    if not all([is_lack(board, pair) for pair in value]) or not ascends(value):
        return False
    paths = classes.paths()
    if not all([paths[classes.class_of(purse)][0] == number for purse, number in value]):
        return False
    return len({classes.class_of(purse) for purse, _ in value}) == len(value)


def is_lack(board, value):
    """Whether any value is a pair of a purse and an integer."""
    return isinstance(value, tuple) and len(value) == 2 and is_purse(board[0], value[0]) and is_whole(value[1])


def ascends(items):
    """Whether each item is greater than the one before it."""
    return all([items[at] < items[at + 1] for at in range(len(items) - 1)])
