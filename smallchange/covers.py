"""What ways lead to, with evidence that they lead to no more."""

from smallchange.checks import is_amount
from smallchange.errors import TooMany
from smallchange.generals import is_cover, lies_under, lies_under_one
from smallchange.searches import Search
from smallchange.trees import Tree, endless_ways, way_to
from smallchange.ways import end_of, joined


def cover(board, purse):
    """The least cover of the purse, in ascending order."""
    return Tree(board, purse).least_cover()


def cover_holds(board, purse, value):
    """Whether any value is a cover of the purse."""
    return is_cover(board, purse, value)


def reach(board, purse, goal):
    """("way", way) to a purse under which goal lies, or ("cover", general) that excludes it."""
    tree = Tree(board, purse)
    for node in tree.highest():
        if lies_under(goal, node.general):
            return "way", way_to(board, node, goal)
    return "cover", tree.least_cover()


def reach_holds(board, purse, goal, value):
    """Whether any value is such a result as reach tells."""
    if not isinstance(value, tuple) or len(value) != 2:
        return False
    if value[0] == "way":
        end = end_of(board, purse, value[1])
        return end is not None and lies_under(goal, end)
    if value[0] == "cover":
        return is_cover(board, purse, value[1]) and not lies_under_one(goal, value[1])
    return False


def most(board, purse, kind):
    """("most", number, way, general) or ("endless", first, second) for the kind."""
    tree = Tree(board, purse)
    best = None
    for node in tree.highest():
        amount = node.general[kind]
        if amount is None:
            first, second = endless_ways(board, node, kind)
            return "endless", first, second
        if best is None or amount > best.general[kind]:
            best = node
    number = best.general[kind]
    goal = tuple([number if other == kind else 0 for other in range(board[0])])
    return "most", number, way_to(board, best, goal), tree.least_cover()


def most_holds(board, purse, kind, value):
    """Whether any value is such a result as most tells."""
    if not isinstance(value, tuple) or len(value) == 0:
        return False
    if value[0] == "most":
        return len(value) == 4 and most_is(board, purse, kind, value)
    return value[0] == "endless" and len(value) == 3 and endless_is(board, purse, kind, value)


def most_is(board, purse, kind, value):
    """Whether the way of value comes to its number, and its cover to no more."""
    _, number, way, general = value
    end = end_of(board, purse, way)
    if not is_amount(number) or end is None or end[kind] != number or not is_cover(board, purse, general):
        return False
    return all([item[kind] is not None and item[kind] <= number for item in general])


def endless_is(board, purse, kind, value):
    """Whether the second way of value goes on from the first one and gains."""
    middle = end_of(board, purse, value[1])
    if middle is None:
        return False
    end = end_of(board, middle, value[2])
    return end is not None and lies_under(middle, end) and end[kind] > middle[kind]


def fewest_uses(board, purse, goal):
    """The number of uses of a shortest way to the goal, or None; TooMany."""
    indexes = shortest_indexes(board, purse, goal)
    return None if indexes is None else len(indexes)


def shortest_way(board, purse, goal):
    """A way to the goal with the fewest uses, or None; TooMany."""
    indexes = shortest_indexes(board, purse, goal)
    return None if indexes is None else joined([(index, 1) for index in indexes])


def shortest_indexes(board, purse, goal):
    """The indexes of the offers of a shortest way to the goal, or None; TooMany."""
    tree = Tree(board, purse)
    if not tree.has(goal):
        return None
    indexes = Search(tree, purse, [goal]).shortest()
    if indexes is None:
        raise TooMany()
    return indexes
