"""Lattices: what can be made of vectors by integer multiples, and the classes of what differs by it."""


class Lattice:
    """All sums of integer multiples of some vectors with size places.

    For each place, rows has a vector of the lattice with 0 at all earlier
    places and as little above 0 as can be at this one, or None.
    """

    def __init__(self, size, vectors):
        self.rows = [None] * size
        for vector in vectors:
            self.put(vector)

    def put(self, vector):
        """Puts one more vector into the lattice."""
        for place, row in enumerate(list(self.rows)):
            if vector[place] == 0:
                continue
            if row is None:
                row, vector = vector, (0,) * len(vector)
            while vector[place] != 0:
                row, vector = vector, less(row, vector, row[place] // vector[place])
            self.rows[place] = row if row[place] > 0 else less((0,) * len(row), row, 1)

    def order(self):
        """The number of classes; for a lattice that leaves finitely many."""
        number = 1
        for place, row in enumerate(self.rows):
            number *= row[place]
        return number

    def reduced(self, vector):
        """The one vector that stands for the class of the vector.

        It is the least of those without an item below 0.
        """
        for place, row in enumerate(self.rows):
            times = vector[place] // row[place]
            if times != 0:
                vector = less(vector, row, times)
        return vector

    def has(self, vector):
        """Whether the vector is one of the lattice."""
        return not any(self.reduced(vector))

    def all_reduced(self):
        """The ascending list of the vectors that stand for the classes."""
        vectors = [()]
        for place, row in enumerate(self.rows):
            vectors = [vector + (item,) for vector in vectors for item in range(row[place])]
        return vectors


def less(one, other, times):
    """The vector one, less so many times the other one."""
    return tuple([one[place] - times * other[place] for place in range(len(one))])
