"""What the tests share: exact comparisons, refusals, and small webs that are written in short."""

import copy
import random
import unittest

from keptjoined import errors
from keptjoined.webs import Web

FIELDS = {
    "BadName": ["word"], "NoHouse": ["word"], "NoLine": ["word"], "SelfLine": ["word"],
    "Taken": ["word"], "SamePart": ["word"], "NoVersion": ["word"], "NoStore": ["word"],
    "BadNumber": ["number"], "BadPlace": ["number"], "NoRow": ["number"], "NoPaper": ["number"],
    "TooMany": ["bound"], "BadDeed": ["place"], "BadText": ["row", "column", "fault"],
    "NoSeat": ["key"], "SeatTaken": ["key"],
    "NothingLeft": [], "OtherHouses": [], "NoLog": [], "BadAsk": [],
}

# Values that are no names, of every kind that a careless check might let through.
NO_NAMES = [
    "", "a" * 13, "1", "1a", "A", "aB", "Ab", "a b", " a", "a ", "a\n", "\na", "a\nb", "a-b", "a_b", "_a", "a.", "-",
    "/a", "a/", "a:", "a@", "a[", "`a", "a`", "a{", "{a", "~",
    None, True, False, 0, 1, -5, 10 ** 30, 1.5, b"a", [], ["a"], (), ("a",), ("a", "b"), {}, {"a": 1}, object(), {"a"},
]


class Alike:
    """A value that claims to be equal to every other one, and to stand where the string does in a dict."""

    def __init__(self, word):
        self.word = word

    def __eq__(self, other):
        return True

    def __hash__(self):
        return hash(self.word)


class Unlike:
    """A value that can be neither compared nor looked up."""

    def __eq__(self, other):
        raise ArithmeticError

    def __hash__(self):
        raise ArithmeticError


def kinds(value):
    """The kinds of a value and of all that it contains, so that 1, 1.0 and True are told apart."""
    if isinstance(value, (list, tuple)):
        return type(value).__name__, [kinds(item) for item in value]
    if isinstance(value, dict):
        return "dict", sorted((repr(key), kinds(item)) for key, item in value.items())
    return type(value).__name__


class KeptTest(unittest.TestCase):
    def assertExactly(self, got, due):
        self.assertEqual(got, due)
        self.assertEqual(kinds(got), kinds(due))

    def assertRefused(self, code, values, call, *given, **named):
        """The call raises the error of this code, with these values as its attributes."""
        with self.assertRaises(errors.KeptError) as caught:
            call(*given, **named)
        error = caught.exception
        self.assertIs(type(error), getattr(errors, code))
        self.assertEqual(error.code, code)
        self.assertEqual(len(values), len(FIELDS[code]))
        for field, value in zip(FIELDS[code], values):
            held = getattr(error, field)
            if isinstance(value, (str, int)) and not isinstance(value, bool):
                self.assertExactly(held, value)
            elif code in ("NoSeat", "SeatTaken"):
                self.assertExactly(held, value)
            else:
                self.assertIs(held, value)

    def check_constructor(self, kind):
        """Points 4 to 7 for a constructor of houses; an object tells them by its property."""
        houses = ["c", "a", "b"]
        made = kind(houses)
        houses.append("d")
        self.assertExactly((made.houses, houses), (["a", "b", "c"], ["c", "a", "b", "d"]))
        self.assertExactly(kind(("b", "a")).houses, ["a", "b"])
        for word in NO_NAMES:
            self.assertRefused("BadName", [word], kind, [word])
            self.assertRefused("BadName", [word], kind, ["a", word, "a"])
        self.assertRefused("Taken", ["a"], kind, ["b", "a", "a", "A"])
        houses = many_houses(32)
        self.assertExactly(kind(houses).houses, houses)
        self.assertRefused("TooMany", [32], kind, houses + ["x", "X"])
        self.assertRefused("Taken", ["h00"], kind, houses + ["h00"])
        self.assertRefused("BadName", [0], kind, houses + [0])


def rows_of(text):
    """The rows of "p a b, q b c" as tuples of words."""
    return [tuple(row.split()) for row in text.split(",") if row.strip()]


def web_of(houses, lines=""):
    return Web(houses.split(), rows_of(lines))


def many_houses(count):
    return ["h%02d" % at for at in range(count)]


def many_lines(count, houses):
    """As many lines, l00 and so on, between neighbours in the list of houses, round and round."""
    pairs = len(houses) - 1
    return [("l%02d" % at, houses[at % pairs], houses[at % pairs + 1]) for at in range(count)]


def full_web():
    """A web at both bounds."""
    houses = many_houses(32)
    return Web(houses, many_lines(96, houses))


def random_webs(count, most_houses, most_lines):
    """Webs of all sizes up to these, with parallel lines, rings and houses alone."""
    source = random.Random(20)
    found = []
    for _ in range(count):
        houses = source.sample("abcdefghij", source.randint(0, most_houses))
        lines = []
        if len(houses) > 1:
            names = source.sample(["l", "k", "m", "a", "b", "l1", "l0", "k9", "z", "y", "x", "w"],
                                  source.randint(0, most_lines))
            lines = [(name, *source.sample(houses, 2)) for name in names]
        found.append(Web(houses, lines))
    return found


def all_ways(web, a, b, without=None):
    """Every way from a to b, found by trying all of them."""
    found = []

    def walk(way, met):
        if met[-1] == b:
            found.append(way)
            return
        for line, low, high in web.lines:
            for start, stop in [(low, high), (high, low)]:
                if line != without and start == met[-1] and stop not in met:
                    walk(way + [(line, start, stop)], met + [stop])

    walk([], [a])
    return found


def joined_by_hand(houses, lines, a, b):
    """Whether the lines join two houses, by letting the reached houses grow until nothing changes."""
    reached = {a}
    for _ in houses:
        for _, low, high in lines:
            if low in reached or high in reached:
                reached |= {low, high}
    return b in reached


def parts_by_hand(houses, lines):
    found = []
    for house in sorted(houses):
        if not any(house in part for part in found):
            found.append([other for other in sorted(houses) if joined_by_hand(houses, lines, house, other)])
    return found


def yard_state(yard):
    """All that can be seen of a yard without changing it."""
    rows = [(row, yard.listed(row), yard.shape(row), yard.size(row), yard.weight(row), yard.height(row),
             yard.least_tie(row), yard.least_spare(row)) for row in yard.row_numbers()]
    held = [(yard.row_of(one[0]), yard.place_of(one[0]), one[0] in yard) for row in rows for one in row[1]]
    return copy.deepcopy((rows, held, yard.cuts, yard.splices, len(yard)))


def store_state(store):
    """All that can be seen of a store."""
    houses, levels = store.houses, range(store.top + 1)
    return copy.deepcopy([
        houses, store.lines, store.top, len(store), store.parts(), store.part_count(), store.ties(), store.spares(),
        store.trace(), store.table(), store.counts(), store.web().houses, store.web().lines,
        [(store.pieces(level), store.tours(level), store.heights(level)) for level in levels],
        [[store.piece_of(level, house) for house in houses] for level in levels],
        [(store.part_of(house), store.size_of(house), store.part_name(house)) for house in houses],
        [(store.joined(a, b), store.way(a, b)) for a in houses for b in houses]])
