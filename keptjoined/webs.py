"""Webs: unchangeable sets of houses and lines."""

from keptjoined.checks import check_known, check_line_stands, check_new_line
from keptjoined.names import check_houses, ordered


class Web:
    """A set of houses and the lines that stand between them; it never changes."""

    def __init__(self, houses=(), lines=()):
        self._houses = check_houses(houses)
        self._ends = {}
        for line, a, b in lines:
            check_new_line(self._houses, self._ends, line, a, b)
            self._ends[line] = ordered(a, b)
        self._lines = sorted([(line, low, high) for line, (low, high) in self._ends.items()])

    @property
    def houses(self):
        """The houses, ascending."""
        return list(self._houses)

    @property
    def lines(self):
        """The lines as tuples (name, low, high), ascending."""
        return list(self._lines)

    def ends(self, line):
        """The two ends of a line, ascending."""
        check_line_stands(self._ends, line)
        return self._ends[line]

    def lines_at(self, house):
        """The names of the lines that end at a house, ascending."""
        check_known(self._houses, [house])
        return [line for line, low, high in self._lines if house == low or house == high]

    def with_house(self, house):
        """A new web that has this house too."""
        # What is here passes every check again, so only the new item can be refused, and in its order.
        return Web(self._houses + [house], self._lines)

    def with_line(self, line, a, b):
        """A new web that has this line too."""
        return Web(self._houses, self._lines + [(line, a, b)])

    def without_line(self, line):
        """A new web that lacks this line."""
        check_line_stands(self._ends, line)
        return Web(self._houses, [row for row in self._lines if row[0] != line])

    def __eq__(self, other):
        return isinstance(other, Web) and self._houses == other._houses and self._lines == other._lines

    def __len__(self):
        return len(self._lines)

    def __contains__(self, line):
        return isinstance(line, str) and line in self._ends

    def __iter__(self):
        return iter(self._lines)
