"""What both kinds of levels keep: the lines that stand, each with its level."""

from keptjoined.checks import check_line_stands, check_new_line
from keptjoined.names import check_houses, check_number, ordered, top_level


class LevelRows:
    """Houses, and lines that stand, each with its ends, its level, and whether it is a tie."""

    def __init__(self, houses):
        self._houses = check_houses(houses)
        self._standing = {}

    @property
    def houses(self):
        """The houses, ascending."""
        return list(self._houses)

    @property
    def lines(self):
        """The lines as tuples (name, low, high), ascending."""
        return sorted([(line, low, high) for line, (low, high, _, _) in self._standing.items()])

    @property
    def top(self):
        """The greatest level."""
        return top_level(len(self._houses))

    def check_level(self, level):
        """BadNumber for what is no level; returns it."""
        return check_number(level, 0, self.top)

    def check_new(self, line, a, b):
        """All five steps for a line that is to be put."""
        check_new_line(self._houses, self._standing, line, a, b)

    def begin(self, line, a, b, tie):
        """Let a line stand, at level 0."""
        low, high = ordered(a, b)
        self._standing[line] = (low, high, 0, tie)

    def end(self, line):
        """Let a line stand no more."""
        del self._standing[line]

    def row_of(self, line):
        """The low end, the high end, the level of a line that stands, and whether it is a tie."""
        check_line_stands(self._standing, line)
        return self._standing[line]

    def rise(self, line):
        """Let a line rise by one level; returns what the trace gets."""
        low, high, level, tie = self._standing[line]
        self._standing[line] = (low, high, level + 1, tie)
        return "raise", line, level + 1

    def become_tie(self, line):
        """Let a spare become a tie of the same level; returns what the trace gets."""
        low, high, level, _ = self._standing[line]
        self._standing[line] = (low, high, level, True)
        return "found", line, level

    def table(self):
        """The lines with their ends and levels and whether they are ties, ascending."""
        return sorted([(line, low, high, level, tie) for line, (low, high, level, tie) in self._standing.items()])

    def twin(self):
        """Another one in the same state."""
        made = LevelRows(self._houses)
        made._standing = dict(self._standing)
        return made


def half_of(first, second):
    """Of two pieces the one with fewer houses, and of equally large ones the one with the least house."""
    return min([(len(piece), piece) for piece in [first, second]])[1]
