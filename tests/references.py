"""What the tests compare with: tours and levels kept as plain lists, step by step by the words of the document."""

import random

from keptjoined.names import is_name
from keptjoined.plaintours import linked, parted, tour_houses, tour_lines

# What a level must not be where the greatest level is 2; some equal 0 or 1, but are no integers.
NO_LEVELS = [-1, 3, 4, 10 ** 20, -10 ** 20, True, False, 1.0, 0.0, None, "0", "", [], [0], (), (1,), {}, object()]

# The lines that the small levels and the small store put before they take q; p and s then have risen, t is a tie.
SMALL_LINES = "p a b, q b c, r c d, s a b, t a d, u c d"

# Calls that these refuse then, with the houses a to e, each with its error: (method, arguments, code, value).
REFUSED = [
    ("put", ("N", "A", "B"), "BadName", "N"), ("put", ("n", "A", "B"), "BadName", "A"),
    ("put", ("n", "z", "B"), "BadName", "B"), ("put", ("p", "a", ""), "BadName", ""),
    ("put", ("n", "z", "y"), "NoHouse", "z"), ("put", ("n", "a", "z"), "NoHouse", "z"),
    ("put", ("p", "z", "z"), "NoHouse", "z"), ("put", ("n", "p", "a"), "NoHouse", "p"),
    ("put", ("n", "a", "a"), "SelfLine", "n"), ("put", ("p", "a", "a"), "SelfLine", "p"),
    ("put", ("p", "a", "b"), "Taken", "p"), ("put", ("s", "c", "d"), "Taken", "s"),
    ("put", ("p", "e", "a"), "Taken", "p"), ("take", ("P",), "BadName", "P"), ("take", ("n",), "NoLine", "n"),
    ("take", ("a",), "NoLine", "a"), ("level_of", ("P",), "BadName", "P"), ("level_of", ("n",), "NoLine", "n"),
    ("level_of", ("a",), "NoLine", "a"), ("piece_of", (-1, "A"), "BadNumber", -1),
    ("piece_of", (3, "z"), "BadNumber", 3), ("piece_of", (0, "A"), "BadName", "A"),
    ("piece_of", (2, "A"), "BadName", "A"), ("piece_of", (2, "z"), "NoHouse", "z"),
    ("piece_of", (0, "p"), "NoHouse", "p"), ("piece_of", ("a", 0), "BadNumber", "a"), ("pieces", (3,), "BadNumber", 3),
    ("pieces", (-1,), "BadNumber", -1),
]
REFUSED_WITH_FORESTS = [
    ("way", ("A", "B"), "BadName", "A"), ("way", ("z", "B"), "BadName", "B"), ("way", ("y", "z"), "NoHouse", "y"),
    ("way", ("a", "z"), "NoHouse", "z"), ("way", ("z", "z"), "NoHouse", "z"), ("tours", (3,), "BadNumber", 3),
    ("tours", (-1,), "BadNumber", -1), ("heights", (3,), "BadNumber", 3), ("heights", (-1,), "BadNumber", -1),
]


def random_deeds(seed, houses, names, count):
    """Deeds that can be done one after another; lines become more at first, and fewer towards the end."""
    source = random.Random(seed)
    standing = []
    deeds = []
    for at in range(count):
        free = [name for name in names if name not in standing]
        puts = 7 if at % 60 < 35 else 3
        if free and (not standing or source.randrange(10) < puts):
            line = source.choice(free)
            standing.append(line)
            deeds.append(("put", line, *source.sample(houses, 2)))
        else:
            deeds.append(("take", standing.pop(source.randrange(len(standing)))))
    return deeds


def do(levels, deed):
    """Do a deed on levels or on a store; returns what it returns."""
    return levels.put(*deed[1:]) if deed[0] == "put" else levels.take(deed[1])


def deed_fault(houses, lines, place, deed):
    """What is wrong with a deed behind so many others, (code, value), by points 5, 68 and 69; the lines stand."""
    if type(deed) not in (tuple, list) or not deed or type(deed[0]) is not str:
        return "BadDeed", place
    if (deed[0], len(deed)) != ("put", 4) and (deed[0], len(deed)) != ("take", 2):
        return "BadDeed", place
    names = {row[0] for row in lines}
    for word in deed[1:]:
        if not is_name(word):
            return "BadName", word
    for word in deed[2:]:
        if word not in houses:
            return "NoHouse", word
    if len(deed) == 4 and deed[2] == deed[3]:
        return "SelfLine", deed[1]
    if len(deed) == 4 and deed[1] in names:
        return "Taken", deed[1]
    if len(deed) == 2 and deed[1] not in names:
        return "NoLine", deed[1]
    if len(deed) == 4 and len(lines) >= 96:
        return "TooMany", 96
    return ("TooMany", 240) if place >= 240 else None


def told(deed):
    """A deed as it is returned."""
    return ("put", deed[1], min(deed[2:]), max(deed[2:])) if len(deed) == 4 else ("take", deed[1])


def lines_after(lines, deed):
    """The lines that stand after a deed that can be done, ascending."""
    if len(deed) == 4:
        return sorted([*lines, told(deed)[1:]])
    return [row for row in lines if row[0] != deed[1]]


def moments(deeds):
    """The lines that stand at each moment."""
    found = [[]]
    for deed in deeds:
        found.append(lines_after(found[-1], deed))
    return found


def undoing(deeds):
    """The inverses of all deeds, the last one first."""
    found = []
    for lines, deed in zip(moments(deeds), deeds):
        found += [("take", deed[1])] if len(deed) == 4 else [("put", *row) for row in lines if row[0] == deed[1]]
    return found[::-1]


def merged_parts(houses, lines):
    """The parts, by letting the houses of each line come together."""
    parts = [[house] for house in sorted(houses)]
    for _, low, high in lines:
        touched = [part for part in parts if low in part or high in part]
        parts = [part for part in parts if part not in touched] + [sorted(sum(touched, []))]
    return sorted(parts)


def least_height(seats):
    """The height of the lowest binary tree of so many seats."""
    return seats.bit_length()


class HandTours:
    """The tours of a forest (point 36), and the cuts and splices that they take (point 33)."""

    def __init__(self, houses):
        self.tours = [[("house", house)] for house in houses]
        self.cuts = 0
        self.splices = 0

    def of(self, house):
        return [tour for tour in self.tours if ("house", house) in tour][0]

    def link(self, line, a, b):
        low, high = sorted([a, b])
        first, second = self.of(low), self.of(high)
        turns = (first[0] != ("house", low)) + (second[0] != ("house", high))
        self.cuts += turns
        self.splices += turns + 3
        self.tours.remove(first)
        self.tours.remove(second)
        self.tours.append(linked(first, second, line, low, high))

    def cut(self, line):
        tour = [tour for tour in self.tours if line in tour_lines(tour)][0]
        self.cuts += 4
        self.splices += 1
        self.tours.remove(tour)
        self.tours += parted(tour, line)

    def in_order(self):
        return sorted(self.tours, key=tour_houses)


class HandLevels:
    """Points 41 to 43, row by row; and the links and cuts of point 48, told by the traces."""

    def __init__(self, houses):
        self.houses = sorted(houses)
        self.top = max(len(houses), 1).bit_length() - 1
        self.rows = {}
        self.forests = [HandTours(self.houses) for _ in range(self.top + 1)]
        self.tally = dict.fromkeys(["puts", "takes", "rises", "found", "joined", "parted"], 0)

    def ties(self, level):
        return [(line, row[0], row[1]) for line, row in self.rows.items() if row[3] and row[2] >= level]

    def lines(self):
        return sorted((line, row[0], row[1]) for line, row in self.rows.items())

    def table(self):
        return sorted((line, *row) for line, row in self.rows.items())

    def pieces(self, level):
        return merged_parts(self.houses, self.ties(level))

    def piece_of(self, level, house):
        return [piece for piece in self.pieces(level) if house in piece][0]

    def put(self, line, a, b):
        tie = b not in self.piece_of(0, a)
        self.rows[line] = [min(a, b), max(a, b), 0, tie]
        trace = [("tie" if tie else "spare", 0)]
        self.tally["puts"] += 1
        if tie:
            self.tally["joined"] += 1
            self.forests[0].link(line, a, b)
        return trace

    def take(self, line):
        low, high, level, tie = self.rows.pop(line)
        self.tally["takes"] += 1
        if not tie:
            return [("spare", level)]
        for forest in self.forests[:level + 1]:
            forest.cut(line)
        trace = [("cut", level)]
        while level >= 0:
            trace += self.visit(level, low, high)
            if trace[-1][0] == "found":
                self.tally["found"] += 1
                return trace
            level -= 1
        self.tally["parted"] += 1
        return trace

    def visit(self, level, low, high):
        first, second = sorted([self.piece_of(level, low), self.piece_of(level, high)])
        half = second if len(second) < len(first) else first
        trace = [("half", level, half[0], len(half))]
        here = [line for line in sorted(self.rows) if self.rows[line][2] == level]
        for line in [line for line in here if self.rows[line][3]]:
            a, b = self.rows[line][:2]
            if a in half and b in half:
                trace.append(self.rise(line))
                self.forests[level + 1].link(line, a, b)
        for line in [line for line in here if not self.rows[line][3]]:
            a, b = self.rows[line][:2]
            if a in half and b in half:
                trace.append(self.rise(line))
            elif a in half or b in half:
                self.rows[line][3] = True
                for forest in self.forests[:level + 1]:
                    forest.link(line, a, b)
                return trace + [("found", line, level)]
        return trace + [("none", level)]

    def rise(self, line):
        self.rows[line][2] += 1
        self.tally["rises"] += 1
        return "raise", line, self.rows[line][2]

    def counts(self):
        return {**self.tally, "cuts": sum(forest.cuts for forest in self.forests),
                "splices": sum(forest.splices for forest in self.forests)}
