"""What tills do, by the words of points 24 and 25, and edits to try."""

from plain_boards import plain_loops

NAMES = {"use": 2, "add": 4, "drop": 1, "give": 2, "take": 2}
MOST = 10 ** 6


def is_from(value, low, high):
    return type(value) is int and low <= value <= high


def is_plain_offer(kinds, value):
    a, x, b, y = value
    return is_from(a, 0, kinds - 1) and is_from(x, 1, 30) and is_from(b, 0, kinds - 1) and is_from(y, 0, 30) and a != b


def gains(board):
    return any(worth > 1 for worth, _ in plain_loops(board))


def plain_edit(board, purse, edit, promise=None):
    """((board, purse), None) behind an edit, or (None, (name of the error, its fields)); loops as "loop"."""
    name, values = edit[0], edit[1:]
    wrong = plain_error(board, purse, name, values)
    if wrong is not None:
        return None, wrong
    kinds, offers = board
    amounts = list(purse)
    if name == "use":
        a, x, b, y = offers[values[0]]
        amounts[a] -= values[1] * x
        amounts[b] += values[1] * y
    elif name == "add":
        offers = tuple(sorted(offers + (values,)))
    elif name == "drop":
        offers = offers[:values[0]] + offers[values[0] + 1:]
    else:
        amounts[values[0]] += values[1] if name == "give" else -values[1]
    for kind, amount in enumerate(amounts):
        if amount > MOST:
            return None, ("TooFull", [kind])
    if promise is not None and gains((kinds, offers)):
        return None, ("Gains", ["loop"])
    if promise is not None and amounts[promise[0]] < promise[1]:
        return None, ("TooLittle", [amounts[promise[0]]])
    return ((kinds, offers), tuple(amounts)), None


def plain_error(board, purse, name, values):
    """(name, fields) of the first of the edit's own errors, but for TooFull; None if there is none."""
    kinds, offers = board
    if name in ("use", "drop") and not is_from(values[0], 0, len(offers) - 1):
        return "NoOffer", [values[0]]
    if name == "use":
        if not is_from(values[1], 1, MOST):
            return "BadTimes", [values[1]]
        a, x, _, _ = offers[values[0]]
        return ("Stuck", [0]) if purse[a] < x * values[1] else None
    if name == "add":
        if not is_plain_offer(kinds, values):
            return "BadOffer", [values]
        if values in offers:
            return "OfferThere", []
        return ("TooManyOffers", []) if len(offers) == 40 else None
    if name in ("give", "take"):
        if not is_from(values[0], 0, kinds - 1):
            return "NoKind", [values[0]]
        if not is_from(values[1], 0, MOST):
            return "BadAmount", [values[1]]
        if name == "take" and purse[values[0]] < values[1]:
            return "TooLittle", [purse[values[0]]]
    return None


def some_edit(rng, board, purse):
    """An edit that often goes well."""
    kinds, offers = board
    name = rng.choice(["use", "use", "add", "drop", "give", "take"])
    if name == "use":
        index = rng.randint(0, max(0, len(offers) - 1))
        if offers and rng.random() < 0.8:
            return name, index, max(1, purse[offers[index][0]] // offers[index][1] // rng.choice([1, 2, 3]))
        return name, rng.randint(-1, len(offers)), rng.choice([0, 1, 2, MOST, MOST + 1])
    if name == "add":
        if kinds > 1 and rng.random() < 0.8:
            a, b = rng.sample(range(kinds), 2)
            return name, a, rng.randint(1, 9), b, rng.randint(0, 6)
        return name, rng.randint(0, kinds), rng.randint(0, 31), rng.randint(0, kinds), rng.randint(-1, 31)
    if name == "drop":
        return name, rng.randint(0 if rng.random() < 0.9 else -1, max(0, len(offers)))
    kind = rng.randint(0, kinds - 1) if rng.random() < 0.9 else rng.choice([-1, kinds])
    return name, kind, rng.choice([0, 1, 5, 20, rng.randint(0, MOST), MOST + 1])
