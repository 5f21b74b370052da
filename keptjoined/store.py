"""Stores: houses and lines that come and go, and the answers of the lines that stand."""

from keptjoined.levels import Levels


class Store:
    """What belongs together at the moment; each deed returns what it changed of that."""

    def __init__(self, houses=()):
        self._levels = Levels(houses)
        self._trace = []

    @property
    def houses(self):
        """The houses, ascending."""
        return self._levels.houses

    @property
    def lines(self):
        """The lines as tuples (name, low, high), ascending."""
        return self._levels.lines

    @property
    def top(self):
        """The greatest level."""
        return self._levels.top

    def __len__(self):
        return len(self._levels.lines)

    def __contains__(self, line):
        return isinstance(line, str) and line in [row[0] for row in self._levels.lines]

    def put(self, line, a, b):
        """Put a new line in; returns None or the two parts that it joins."""
        before = self.parts()
        self._trace = self._levels.put(line, a, b)
        return two_alone(before, self.parts())

    def take(self, line):
        """Take a line out; returns None or the two parts into which its part falls."""
        before = self.parts()
        self._trace = self._levels.take(line)
        return two_alone(self.parts(), before)

    def web(self):
        """The web that stands."""
        return self._levels.web()

    def joined(self, a, b):
        """True if two houses are in one part."""
        return self._levels.joined(a, b)

    def way(self, a, b):
        """The way from a to b over ties, or None."""
        return self._levels.way(a, b)

    def part_of(self, house):
        """The part of a house, ascending."""
        return self._levels.piece_of(0, house)

    def size_of(self, house):
        """The number of houses of the part of a house."""
        return self._levels.size_of(house)

    def part_name(self, house):
        """The least house of the part of a house."""
        return self.part_of(house)[0]

    def parts(self):
        """The parts in ascending order of their least houses."""
        return self._levels.pieces(0)

    def part_count(self):
        """The number of parts."""
        return len(self.parts())

    def ties(self):
        """The names of the ties, ascending."""
        return [row[0] for row in self.table() if row[4]]

    def spares(self):
        """The names of the spares, ascending."""
        return [row[0] for row in self.table() if not row[4]]

    def trace(self):
        """The trace of the last deed that was done."""
        return list(self._trace)

    def level_of(self, line):
        """The level of a line that stands."""
        return self._levels.level_of(line)

    def table(self):
        """The lines with their ends and levels and whether they are ties, ascending."""
        return self._levels.table()

    def piece_of(self, level, house):
        """The houses of the piece of this level that holds a house, ascending."""
        return self._levels.piece_of(level, house)

    def pieces(self, level):
        """The pieces of a level in ascending order of their least houses."""
        return self._levels.pieces(level)

    def tours(self, level):
        """The tours of the forest of a level, in the order of its pieces."""
        return self._levels.tours(level)

    def heights(self, level):
        """For each piece of a level its least house, the number of its seats, and the height of its tree."""
        return self._levels.heights(level)

    def counts(self):
        """What was done so far, and how many cuts and splices it took."""
        return self._levels.counts()


def two_alone(parts, others):
    """The two parts that stand in the first list alone, or None if each stands in the second one too."""
    found = [part for part in parts if part not in others]
    if found == []:
        return None
    first, second = found
    return first, second
