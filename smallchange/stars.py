"""What any number of parts, put together, come to far out."""

from heapq import heappop, heappush
from math import lcm

from smallchange.rules import begin_of, cycle_of


class BestPart:
    """A star that repeats with the part whose value by its size is greatest.

    Measured against this part each other part loses something. What is put
    beside the best part is told by its size, but for multiples of the best
    part's: so the least losses are found residue by residue.
    """

    def __init__(self, parts):
        self.size, self.worth = best_part(parts)
        losses = [(self.worth * size - self.size * worth, size) for size, worth in parts]
        self.rests = least_rests(self.size, losses)
        self.turn = cycle_of([rest[0] for rest in self.rests])
        self.gain = self.worth * self.turn // self.size
        self.full = max([rest[1] for rest in self.rests])
        self.late = max(0, self.full - self.size + 1)

    def parts_for(self, x):
        """A dict of parts and times for x, or None if the rest needs more."""
        count = x - self.rests[x % self.size][1]
        if count < 0:
            return None
        times = {self.size: count // self.size}
        add_rest(times, self.rests, x)
        return times


class LongPart:
    """A star without a best part: it ends up with one long part of a rule.

    Each part loses something against the rule's rise, and what a part loses
    is the same with any number of the rule's periods added to it.
    """

    def __init__(self, rule):
        table, period, rise = rule
        losses = [(rise * size - period * table[size], size) for size in range(1, len(table))]
        self.size = period
        self.rests = least_rests(period, losses)
        self.ends = [least_end(losses[begin_of(rule) - 1:], self.rests, at) for at in range(period)]
        self.turn = cycle_of([end[0] for end in self.ends])
        self.gain = rise * self.turn // period
        self.late = last_unlike(rule, self.ends) + 1

    def parts_for(self, x):
        """A dict of parts and times for x, or None if x is not far out."""
        end = self.ends[x % self.size]
        least = end[1]
        size = end[2]
        if x < self.late or x < least:
            return None
        times = {size + x - least: 1}
        add_rest(times, self.rests, x - size)
        return times


def best_part(parts):
    """The least part (size, worth) with the most worth by size; parts ascend."""
    best = parts[0]
    for part in parts:
        if part[1] * best[0] > best[1] * part[0]:
            best = part
    return best


def least_rests(modulus, losses):
    """For each residue the least (loss, size, last) of parts that come to it.

    Each part is a pair (loss, size); of equal losses the least size counts,
    and last is the size of one of these parts, 0 if there are none.
    """
    steps = least_steps(modulus, losses)
    rests = [None] * modulus
    hopes = {0: (0, 0)}
    queue = [(0, 0, 0, 0)]
    while queue:
        loss, size, at, last = heappop(queue)
        if rests[at] is not None:
            continue
        rests[at] = (loss, size, last)
        for step in steps:
            goal = (at + step[1]) % modulus
            hope = (loss + step[0], size + step[1])
            if goal not in hopes or hope < hopes[goal]:
                hopes[goal] = hope
                heappush(queue, (hope[0], hope[1], goal, step[1]))
    return rests


def least_steps(modulus, losses):
    """The list of the least (loss, size) for each residue of a size."""
    steps = {}
    for loss, size in losses:
        at = size % modulus
        if at not in steps or (loss, size) < steps[at]:
            steps[at] = (loss, size)
    return list(steps.values())


def add_rest(times, rests, x):
    """Adds the parts of the rest for the residue of x to the dict times."""
    at = x % len(rests)
    while rests[at][2] > 0:
        size = rests[at][2]
        times[size] = times.get(size, 0) + 1
        at = (at - size) % len(rests)


def least_end(losses, rests, at):
    """The least (loss, size, part) of a part that can be long and its rest."""
    ends = []
    for loss, size in losses:
        rest = rests[(at - size) % len(rests)]
        ends.append((loss + rest[0], size + rest[1], size))
    return min(ends)


def last_unlike(rule, ends):
    """The last amount whose least loss is not that of its end."""
    table, period, rise = rule
    small = BestPart([(1, 0)] + [(size, table[size]) for size in range(1, begin_of(rule))])
    known = max(small.full, max([end[1] for end in ends]))
    late = last_cheaper(period, rise, ends, small)
    if late >= known:
        return late
    singles = [table[min(x, begin_of(rule) - 1)] for x in range(known)]
    sums = stack(singles, begin_of(rule))[0]
    losses = [rise * x - period * sums[x] for x in range(known)]
    return max([x for x in range(known) if is_unlike(x, losses[x], ends[x % period])])


def is_unlike(x, loss, end):
    """Whether x does not lose what its end does, if small parts lose loss."""
    return loss < end[0] or (x < end[1] and loss > end[0])


def last_cheaper(period, rise, ends, small):
    """The last amount at which small parts lose less than its end.

    It counts on the rests of the small parts: it is right if these fit in.
    """
    slip = rise * small.size - period * small.worth
    turn = lcm(period, small.size)
    late = []
    for at in range(turn):
        room = small.size * ends[at % period][0] - period * small.rests[at % small.size][0] - 1
        x = room // slip
        late.append(x - (x - at) % turn)
    return max(late)


def stack(singles, limit):
    """What single parts, and any number of parts, come to at most.

    singles has the worth of a single part of each size from 0 on. Returns the
    list of the greatest sums for all sizes, and the parts (size, worth) less
    than limit that are worth more than all that lesser ones come to. No sum
    may need two parts from limit on.
    """
    sums = [0]
    kept = []
    for x in range(1, len(singles)):
        best = max([sums[x - size] + worth for size, worth in kept], default=0)
        if singles[x] > best:
            best = singles[x]
            if x < limit:
                kept.append((x, best))
        sums.append(best)
    return sums, kept


def stacked_parts(singles, limit, x):
    """A dict of parts and times whose worths come to the greatest sum at x."""
    sums, kept = stack(singles, limit)
    times = {}
    while x > 0:
        part = x
        if sums[x] != singles[x]:
            part = min([size for size, worth in kept if size < x and sums[x - size] + worth == sums[x]])
        times[part] = times.get(part, 0) + 1
        x -= part
    return times
