"""Forests: houses and lines without a ring, with a tour of each piece in one yard."""

from keptjoined.checks import check_known, check_line, check_line_stands, check_names, check_stand
from keptjoined.errors import Taken
from keptjoined.names import check_houses, ordered
from keptjoined.plaintours import arc_key, house_key, tour_houses, tour_way
from keptjoined.tours import plant, tie_up, untie
from keptjoined.yards import Yard


class Forest:
    """Houses and the lines between them, which contain no ring; its parts are called pieces."""

    def __init__(self, houses=()):
        self._houses = check_houses(houses)
        self._ends = {}
        self._yard = Yard()
        for house in self._houses:
            plant(self._yard, house)

    def _row(self, house):
        """The row of the tour of a house."""
        check_known(self._houses, [house])
        return self._yard.row_of(house_key(house))

    @property
    def houses(self):
        """The houses, ascending."""
        return list(self._houses)

    @property
    def lines(self):
        """The lines as tuples (name, low, high), ascending."""
        return sorted([(line, low, high) for line, (low, high) in self._ends.items()])

    @property
    def cuts(self):
        """How many rows the yard cut."""
        return self._yard.cuts

    @property
    def splices(self):
        """How many pairs of rows the yard spliced."""
        return self._yard.splices

    @property
    def steps(self):
        """How many rows the yard cut and spliced."""
        return self._yard.cuts + self._yard.splices

    def __len__(self):
        return len(self._ends)

    def __contains__(self, line):
        return isinstance(line, str) and line in self._ends

    def link(self, line, a, b):
        """Add a line between two pieces."""
        check_line(self._houses, line, a, b)
        if line in self._ends:
            raise Taken(line)
        low, high = ordered(a, b)
        # This raises SamePart before it turns anything.
        tie_up(self._yard, line, low, high)
        self._ends[line] = (low, high)

    def cut(self, line):
        """Remove a line."""
        check_line_stands(self._ends, line)
        low, high = self._ends[line]
        untie(self._yard, line, low, high)
        del self._ends[line]

    def mark_tie(self, line, marked):
        """Let the arc seat from the low end of a line to its high end bear a tie mark, or none."""
        check_line_stands(self._ends, line)
        low, high = self._ends[line]
        self._yard.mark(arc_key(line, low, high), tie=line if marked else None)

    def mark_spare(self, house, line):
        """Let the seat of a house bear this spare mark, or none."""
        check_names([house] if line is None else [house, line])
        check_stand(self._houses, [house])
        self._yard.mark(house_key(house), spare=line)

    def same(self, a, b):
        """True if two houses are in one piece."""
        check_known(self._houses, [a, b])
        return self._row(a) == self._row(b)

    def piece_of(self, house):
        """The houses of the piece of a house, ascending."""
        return tour_houses(self.tour_of(house))

    def size_of(self, house):
        """The number of houses of the piece of a house."""
        return self._yard.weight(self._row(house))

    def pieces(self):
        """The pieces in ascending order of their least houses."""
        found = {}
        for house in self._houses:
            found.setdefault(self._row(house), []).append(house)
        return list(found.values())

    def least_tie(self, house):
        """The least tie mark in the piece of a house, or None."""
        return self._yard.least_tie(self._row(house))

    def least_spare(self, house):
        """The least spare mark in the piece of a house, or None."""
        return self._yard.least_spare(self._row(house))

    def way(self, a, b):
        """The way from a to b, or None if they are in different pieces."""
        if not self.same(a, b):
            return None
        return tour_way(self.tour_of(a), a, b)

    def tour_of(self, house):
        """The keys of the tour of the piece of a house."""
        return [seat[0] for seat in self._yard.listed(self._row(house))]

    def heights(self):
        """For each piece its least house, the number of its seats, and the height of its tree."""
        rows = [(piece[0], self._row(piece[0])) for piece in self.pieces()]
        return [(house, self._yard.size(row), self._yard.height(row)) for house, row in rows]
