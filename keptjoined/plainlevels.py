"""Levels of lines, kept as a table alone: pieces are found by searching."""

from keptjoined.levelrows import LevelRows, half_of
from keptjoined.plain import find_part, find_parts
from keptjoined.webs import Web


class PlainLevels:
    """Houses, and lines that are put and taken, each a tie or a spare of a level."""

    def __init__(self, houses=()):
        self._rows = LevelRows(houses)

    @property
    def houses(self):
        """The houses, ascending."""
        return self._rows.houses

    @property
    def lines(self):
        """The lines as tuples (name, low, high), ascending."""
        return self._rows.lines

    @property
    def top(self):
        """The greatest level."""
        return self._rows.top

    def _forest(self, level):
        """The web of the ties of a level and above."""
        self._rows.check_level(level)
        return Web(self.houses, [row[:3] for row in self.table() if row[4] and row[3] >= level])

    def put(self, line, a, b):
        """Put a new line in; returns the trace."""
        self._rows.check_new(line, a, b)
        tie = b not in self.piece_of(0, a)
        self._rows.begin(line, a, b, tie)
        return [("tie" if tie else "spare", 0)]

    def take(self, line):
        """Take a line out, and look for a replacement if it is a tie; returns the trace."""
        low, high, level, tie = self._rows.row_of(line)
        self._rows.end(line)
        if not tie:
            return [("spare", level)]
        trace = [("cut", level)]
        for at in reversed(range(level + 1)):
            trace = trace + self._visit(at, half_of(self.piece_of(at, low), self.piece_of(at, high)))
            if trace[-1][0] == "found":
                return trace
        return trace

    def _visit(self, level, half):
        """Raise what lies in the smaller half until a spare leads out of it; returns what the trace gets."""
        rows = [row for row in self.table() if row[3] == level]
        trace = [("half", level, half[0], len(half))]
        for line, low, high, _, tie in rows:
            if tie and low in half and high in half:
                trace.append(self._rows.rise(line))
        for line, low, high, _, tie in rows:
            if not tie and (low in half) != (high in half):
                return trace + [self._rows.become_tie(line)]
            if not tie and low in half:
                trace.append(self._rows.rise(line))
        return trace + [("none", level)]

    def level_of(self, line):
        """The level of a line that stands."""
        return self._rows.row_of(line)[2]

    def table(self):
        """The lines with their ends and levels and whether they are ties, ascending."""
        return self._rows.table()

    def piece_of(self, level, house):
        """The houses of the piece of this level that holds a house, ascending."""
        return find_part(self._forest(level), house)

    def pieces(self, level):
        """The pieces of a level in ascending order of their least houses."""
        return find_parts(self._forest(level))

    def twin(self):
        """Another one in the same state."""
        made = PlainLevels()
        made._rows = self._rows.twin()
        return made
