"""Levels of lines, with one forest for each level."""

from keptjoined.forest import Forest
from keptjoined.levelrows import LevelRows, half_of
from keptjoined.webs import Web


class Levels:
    """Houses, and lines that are put and taken, each a tie or a spare of a level.

    The forest of level i holds the ties of level i and above; those of level i alone bear tie marks there. In it
    the seat of a house bears the least spare of level i that ends at the house.
    """

    def __init__(self, houses=()):
        self._rows = LevelRows(houses)
        self._forests = [Forest(self._rows.houses) for _ in range(self._rows.top + 1)]
        # For each level and each house the spares of this level that end there.
        self._spares = [{house: {} for house in self._rows.houses} for _ in self._forests]
        self._tally = {"puts": 0, "takes": 0, "rises": 0, "found": 0, "joined": 0, "parted": 0}

    @property
    def houses(self):
        """The houses, ascending."""
        return self._rows.houses

    @property
    def lines(self):
        """The lines as tuples (name, low, high), ascending."""
        return self._rows.lines

    @property
    def top(self):
        """The greatest level."""
        return self._rows.top

    def _forest(self, level):
        """The forest of a level."""
        return self._forests[self._rows.check_level(level)]

    def put(self, line, a, b):
        """Put a new line in; returns the trace."""
        self._rows.check_new(line, a, b)
        tie = not self.joined(a, b)
        self._rows.begin(line, a, b, tie)
        self._tally["puts"] += 1
        if not tie:
            self._mark_spare(line, True)
            return [("spare", 0)]
        self._tally["joined"] += 1
        self._link_tie(line, 0)
        return [("tie", 0)]

    def take(self, line):
        """Take a line out, and look for a replacement if it is a tie; returns the trace."""
        low, high, level, tie = self._rows.row_of(line)
        self._tally["takes"] += 1
        if not tie:
            self._mark_spare(line, False)
            self._rows.end(line)
            return [("spare", level)]
        self._rows.end(line)
        for forest in self._forests[:level + 1]:
            forest.cut(line)
        trace = [("cut", level)]
        for at in reversed(range(level + 1)):
            trace = trace + self._visit(at, low, high)
            if trace[-1][0] == "found":
                self._tally["found"] += 1
                return trace
        self._tally["parted"] += 1
        return trace

    def _visit(self, level, low, high):
        """Raise what lies in the smaller half until a spare leads out of it; returns what the trace gets."""
        forest = self._forests[level]
        half = half_of(forest.piece_of(low), forest.piece_of(high))
        trace = [("half", level, half[0], len(half))]
        while forest.least_tie(half[0]) is not None:
            trace.append(self._raise_tie(forest.least_tie(half[0])))
        while forest.least_spare(half[0]) is not None:
            line = forest.least_spare(half[0])
            start, stop, _, _ = self._rows.row_of(line)
            if not forest.same(start, stop):
                return trace + [self._find(line)]
            trace.append(self._raise_spare(line))
        return trace + [("none", level)]

    def _raise_tie(self, line):
        """Let a tie rise by one level; returns what the trace gets."""
        level = self._rows.row_of(line)[2]
        self._forests[level].mark_tie(line, False)
        raised = self._rows.rise(line)
        self._link_tie(line, level + 1)
        self._tally["rises"] += 1
        return raised

    def _raise_spare(self, line):
        """Let a spare rise by one level; returns what the trace gets."""
        self._mark_spare(line, False)
        raised = self._rows.rise(line)
        self._mark_spare(line, True)
        self._tally["rises"] += 1
        return raised

    def _find(self, line):
        """Let a spare become a tie; returns what the trace gets."""
        self._mark_spare(line, False)
        found = self._rows.become_tie(line)
        self._link_tie(line, 0)
        return found

    def _link_tie(self, line, lowest):
        """Link a tie in the forests from the lowest level that lacks it to its own, where it is marked."""
        low, high, level, _ = self._rows.row_of(line)
        for forest in self._forests[lowest:level + 1]:
            forest.link(line, low, high)
        self._forests[level].mark_tie(line, True)

    def _mark_spare(self, line, stands):
        """Let a spare stand at its level or no more, and mark the least spare there at its two houses."""
        low, high, level, _ = self._rows.row_of(line)
        for house in [low, high]:
            names = self._spares[level][house]
            if stands:
                names[line] = True
            else:
                del names[line]
            self._forests[level].mark_spare(house, min(list(names), default=None))

    def level_of(self, line):
        """The level of a line that stands."""
        return self._rows.row_of(line)[2]

    def table(self):
        """The lines with their ends and levels and whether they are ties, ascending."""
        return self._rows.table()

    def piece_of(self, level, house):
        """The houses of the piece of this level that holds a house, ascending."""
        return self._forest(level).piece_of(house)

    def pieces(self, level):
        """The pieces of a level in ascending order of their least houses."""
        return self._forest(level).pieces()

    def joined(self, a, b):
        """True if two houses are in one piece of level 0."""
        return self._forests[0].same(a, b)

    def size_of(self, house):
        """The number of houses of the piece of level 0 that holds a house."""
        return self._forests[0].size_of(house)

    def way(self, a, b):
        """The way from a to b over ties, or None."""
        return self._forests[0].way(a, b)

    def tours(self, level):
        """The tours of the forest of a level, in the order of its pieces."""
        forest = self._forest(level)
        return [forest.tour_of(piece[0]) for piece in forest.pieces()]

    def heights(self, level):
        """For each piece of a level its least house, the number of its seats, and the height of its tree."""
        return self._forest(level).heights()

    def web(self):
        """The web that stands."""
        return Web(self.houses, self.lines)

    def counts(self):
        """What was done so far, and how many cuts and splices it took in all forests."""
        found = dict(self._tally)
        found["cuts"] = sum([forest.cuts for forest in self._forests])
        found["splices"] = sum([forest.splices for forest in self._forests])
        return found
