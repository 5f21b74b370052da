"""Lines with weights, of which the lightest that hold all together are kept."""

from keptjoined.checks import check_line_stands, check_names, check_new_line
from keptjoined.forest import Forest
from keptjoined.groups import Groups
from keptjoined.names import MOST_WEIGHT, check_houses, check_number, ordered
from keptjoined.plain import shortest_way
from keptjoined.plaincuts import is_spanning
from keptjoined.webs import Web


class WeightForest:
    """Houses and lines that are put in and never taken out; the kept ones join all that is joined, without a ring."""

    def __init__(self, houses=()):
        self._houses = check_houses(houses)
        self._ends = {}
        self._weights = {}
        self._kept = Forest(self._houses)

    @property
    def houses(self):
        """The houses, ascending."""
        return list(self._houses)

    @property
    def lines(self):
        """All lines put, as tuples (name, low, high), ascending."""
        return sorted([(line, low, high) for line, (low, high) in self._ends.items()])

    def __len__(self):
        return len(self._ends)

    def __contains__(self, line):
        return isinstance(line, str) and line in self._ends

    def put(self, line, a, b, weight):
        """Put a new line in; returns the name of the line that is now out, or None."""
        # The form of the weight is looked at behind the other forms, but before all else.
        check_names([line, a, b])
        check_number(weight, 0, MOST_WEIGHT)
        check_new_line(self._houses, self._ends, line, a, b)
        low, high = ordered(a, b)
        way = self._kept.way(low, high)
        self._ends[line] = (low, high)
        self._weights[line] = weight
        if way is None:
            self._kept.link(line, low, high)
            return None
        gone = max([self._rank(name) for name in [line] + [step[0] for step in way]])[1]
        if gone != line:
            self._kept.cut(gone)
            self._kept.link(line, low, high)
        return gone

    def _rank(self, line):
        """What tells the heavier of two lines."""
        return self._weights[line], line

    def kept(self):
        """The names of the kept lines, ascending."""
        return [row[0] for row in self._kept.lines]

    def outs(self):
        """The names of the lines that are out, ascending."""
        return [row[0] for row in self.lines if row[0] not in self._kept]

    def weight_of(self, line):
        """The weight of a line, kept or out."""
        check_line_stands(self._ends, line)
        return self._weights[line]

    def weights(self):
        """The weights of all lines put."""
        return dict(self._weights)

    def weight_sum(self):
        """The sum of the weights of the kept lines."""
        return sum([self._weights[line] for line in self.kept()])

    def web(self):
        """The web of all lines put."""
        return Web(self._houses, self.lines)

    def heaviest(self, a, b):
        """The rank of the heaviest line on the way over kept lines, or None if there is no line on it or no way."""
        way = self._kept.way(a, b)
        if way is None or way == []:
            return None
        return max([self._rank(step[0]) for step in way])

    def ring_of(self, line):
        """The way over kept lines between the ends of a line that is out; None for a kept line."""
        check_line_stands(self._ends, line)
        if line in self._kept:
            return None
        low, high = self._ends[line]
        return self._kept.way(low, high)


def plain_lightest(web, weights):
    """The names of the lines that, taken from the lightest on, join what the lines before them do not."""
    groups = Groups(web.houses)
    ranks = sorted([(weights[line], line) for line, _, _ in web.lines])
    taken = []
    for _, line in ranks:
        low, high = web.ends(line)
        if groups.unite(low, high):
            taken.append(line)
    return sorted(taken)


def is_lightest(web, weights, names):
    """Judge whether the names are those lines of the web that are to be kept."""
    if not is_spanning(web, names):
        return False
    kept = Web(web.houses, [row for row in web.lines if row[0] in names])
    for line, low, high in web.lines:
        if line not in names:
            way = shortest_way(kept, low, high)
            if max([(weights[step[0]], step[0]) for step in way]) > (weights[line], line):
                return False
    return True
