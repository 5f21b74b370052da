"""Points 52 to 54, and 9 as far as it speaks of tables.py."""

import random
import unittest

from keptjoined.names import is_name
from keptjoined.store import Store
from keptjoined.tables import first_break, is_table, is_within, rise_bound, step_bound
from tests.helpers import NO_NAMES, KeptTest, many_houses
from tests.references import do, merged_parts, random_deeds

KEYS = ["puts", "takes", "rises", "found", "joined", "parted", "cuts", "splices"]
ABCD = ["a", "b", "c", "d"]

# The last item of a row may be a value of any kind; these are no bools.
NO_BOOLS = [0, 1, None, "", "True", 1.0, 0.0, [], [True], (), (False,), {}, object()]


def broken(houses, table):
    """Point 52, number by number."""
    for at, house in enumerate(houses):
        if not is_name(house) or any(house <= other for other in houses[max(0, at - 1):at]):
            return "houses", at
    for at, (line, low, high, level, tie) in enumerate(table):
        fits = is_name(line) and all(line > row[0] for row in table[max(0, at - 1):at])
        fits = fits and low in houses and high in houses and low < high
        if not fits or type(level) is not int or level < 0 or type(tie) is not bool:
            return "row", at
    top = len(bin(max(1, len(houses)))) - 3
    for line, _, _, level, _ in table:
        if level > top:
            return "level", line
    ties = [row for row in table if row[4]]
    for at, (line, low, high, _, _) in enumerate(ties):
        if any(low in part and high in part for part in merged_parts(houses, [row[:3] for row in ties[:at]])):
            return "ring", line
    for level in range(top + 1):
        parts = merged_parts(houses, [row[:3] for row in ties if row[3] >= level])
        for part in parts:
            if len(part) > len(houses) // 2 ** level:
                return "size", level, part[0]
        for line, low, high, reached, tie in table:
            if not tie and reached == level and not any(low in part and high in part for part in parts):
                return "spare", line
    return None


def spoilt(source, houses, table):
    """Houses and a table with one random change."""
    houses, table = list(houses), list(table)
    if source.randrange(5) == 0 or not table:
        at = source.randrange(len(houses) + 1)
        houses[at:at + source.randrange(2)] = source.choice([[], ["a"], ["A"], ["z9"], ["b", "c"]])
        return houses, table
    at = source.randrange(len(table))
    row = list(table[at])
    kind = source.randrange(8)
    if kind == 0:
        table[at:at + 1] = source.choice([[], [table[at]] * 2])
    elif kind == 1:
        table = table[at:] + table[:at]
    elif kind == 2:
        row[0] = source.choice(["p1", "q", "zz", "P", ""])
    elif kind == 3:
        row[1:3] = source.choice([row[2:0:-1], ["a", "b"], ["a", "zz"], ["a", "a"], ["b", "c"]])
    elif kind < 6:
        row[3] = source.choice([0, 1, 2, 3, 9, -1, True, False])
    else:
        row[4] = source.choice([True, False, not row[4], 1, None])
    if kind > 1:
        table[at] = tuple(row)
    return houses, table


def grown(seed, count, deeds):
    """A store of so many houses that has done so many deeds."""
    houses = many_houses(count)
    store = Store(houses)
    for deed in random_deeds(seed, houses, ["l%02d" % at for at in range(30)], deeds):
        do(store, deed)
    return store


class BreakTest(KeptTest):
    def breaks(self, houses, table, due):
        self.assertExactly(first_break(houses, table), due)
        self.assertIs(is_table(houses, table), due is None)
        self.assertExactly(broken(houses, table), due)

    def test_no_breaks(self):
        self.breaks([], [], None)
        self.breaks(["a"], [], None)
        self.breaks(ABCD, [], None)
        self.breaks(ABCD, [("p", "a", "b", 1, True), ("r", "c", "d", 0, True)], None)
        self.breaks(ABCD, [("p", "a", "b", 1, True), ("q", "a", "b", 1, False), ("r", "c", "d", 0, True),
                           ("s", "a", "d", 0, True), ("t", "b", "c", 0, False)], None)
        # A line may have the name of a house.
        self.breaks(["a", "b"], [("a", "a", "b", 0, True)], None)

    def test_houses(self):
        self.breaks(["b", "a"], [], ("houses", 1))
        self.breaks(["a", "c", "b", "a"], [], ("houses", 2))
        self.breaks(["a", "a"], [], ("houses", 1))
        self.breaks(["a9", "aa", "a10"], [], ("houses", 2))
        # An item is compared with the one before it alone.
        self.breaks(["a", "d", "b", "c"], [], ("houses", 2))
        for word in [word for word in NO_NAMES if isinstance(word, str)]:
            self.breaks([word], [], ("houses", 0))
            self.breaks([word, word], [], ("houses", 0))
            self.breaks(["a", word, "b"], [], ("houses", 1))
        self.breaks(["b", "a", "A"], [("P", "x", "x", -1, None)], ("houses", 1))

    def test_rows(self):
        fine = ("p", "a", "b", 0, True)
        for row in [("P", "b", "c", 0, True), ("", "b", "c", 0, True), ("p" * 13, "b", "c", 0, True), ("1p", "b", "c", 0, True),
                    ("p", "b", "c", 0, True), ("o", "b", "c", 0, True), ("o9", "b", "c", 0, False), ("q", "c", "b", 0, True),
                    ("q", "b", "b", 0, True), ("q", "b", "e", 0, True), ("q", "0", "b", 0, True), ("q", "B", "c", 0, True),
                    ("q", "", "b", 0, True), ("q", "b", "c", -1, True), ("q", "b", "c", -9, False), ("q", "b", "c", True, True),
                    ("q", "b", "c", False, True), ("q", "b", "c", False, False)]:
            self.breaks(ABCD, [fine, row], ("row", 1))
            self.breaks(ABCD, [fine, row, ("A", "a", "a", 0, True)], ("row", 1))
            self.breaks(ABCD, [("l", "a", "d", 0, True), fine, row], ("row", 2))
        for last in NO_BOOLS:
            self.breaks(ABCD, [("p", "a", "b", 0, last)], ("row", 0))
            self.breaks(ABCD, [fine, ("q", "b", "c", 0, last)], ("row", 1))
        self.breaks([], [("p", "a", "b", 0, True)], ("row", 0))
        self.breaks(["a"], [("p", "a", "a", 0, True)], ("row", 0))
        self.breaks(ABCD, [("p", "a", "b", 0, True), ("q", "b", "c", 0, True), ("p5", "c", "d", 0, True)], ("row", 2))

    def test_levels(self):
        self.breaks(ABCD, [("p", "a", "b", 3, True)], ("level", "p"))
        self.breaks(ABCD, [("p", "a", "b", 0, True), ("q", "a", "b", 3, False), ("r", "a", "b", 4, False)], ("level", "q"))
        self.breaks(["a", "b"], [("p", "a", "b", 2, True)], ("level", "p"))
        self.breaks(["a", "b", "c"], [("p", "a", "b", 2, True)], ("level", "p"))
        # The level `top` itself is no break of this number, but its pieces are single houses.
        self.breaks(ABCD, [("p", "a", "b", 2, True)], ("size", 2, "a"))
        self.breaks(["a", "b"], [("p", "a", "b", 1, True)], ("size", 1, "a"))
        self.breaks(["a", "b"], [("p", "a", "b", 0, True), ("q", "a", "b", 1, False)], ("spare", "q"))

    def test_rings(self):
        self.breaks(ABCD, [("p", "a", "b", 0, True), ("q", "a", "b", 0, True)], ("ring", "q"))
        self.breaks(ABCD, [("p", "a", "b", 0, True), ("q", "b", "c", 0, True), ("r", "a", "c", 0, True),
                           ("s", "a", "c", 0, True)], ("ring", "r"))
        self.breaks(ABCD, [("p", "a", "b", 0, True), ("q", "b", "c", 0, True), ("r", "a", "c", 0, False)], None)
        # Ties of all levels count together.
        self.breaks(ABCD, [("p", "a", "b", 0, True), ("q", "a", "b", 1, True)], ("ring", "q"))

    def test_sizes(self):
        rows = [("p", "a", "b", 1, True), ("q", "b", "c", 1, True), ("r", "c", "d", 0, True)]
        self.breaks(ABCD, rows, ("size", 1, "a"))
        self.breaks(ABCD, [("p", "b", "c", 1, True), ("q", "c", "d", 1, True)], ("size", 1, "b"))
        houses = list("abcdefgh")
        self.breaks(houses, [("p", "a", "c", 2, True), ("q", "b", "d", 2, True), ("r", "b", "e", 2, True),
                             ("s", "f", "g", 2, True), ("t", "g", "h", 2, True)], ("size", 2, "b"))
        self.breaks(houses, [("p", "a", "b", 1, True), ("q", "b", "c", 1, True), ("r", "c", "d", 1, True)], None)
        self.breaks(houses, [("p", "a", "b", 1, True), ("q", "b", "c", 1, True), ("r", "c", "d", 1, True),
                             ("s", "d", "e", 1, True), ("t", "g", "h", 3, True)], ("size", 1, "a"))
        self.breaks(["a", "b", "c"], [("p", "a", "b", 1, True)], ("size", 1, "a"))

    def test_spares(self):
        self.breaks(ABCD, [("p", "a", "b", 0, False)], ("spare", "p"))
        self.breaks(ABCD, [("p", "a", "b", 0, True), ("q", "a", "c", 0, False), ("r", "a", "d", 0, False)], ("spare", "q"))
        # At level 1 the tie of level 0 does not hold the two ends together.
        self.breaks(ABCD, [("p", "a", "b", 0, True), ("q", "a", "b", 1, False)], ("spare", "q"))
        self.breaks(ABCD, [("p", "a", "b", 1, True), ("q", "a", "b", 0, False), ("r", "a", "b", 1, False)], None)
        self.breaks(ABCD, [("p", "a", "b", 1, True), ("q", "a", "b", 2, False)], ("spare", "q"))

    def test_the_levels_in_turn(self):
        houses = list("abcdefgh")
        # The spare of level 0 comes before the piece of level 1, and that before the spare of level 1.
        large = [("m%d" % at, houses[at], houses[at + 1], 1, True) for at in range(4)]
        self.breaks(houses, large + [("p", "g", "h", 1, False), ("q", "f", "h", 0, False)], ("spare", "q"))
        self.breaks(houses, large + [("p", "g", "h", 1, False)], ("size", 1, "a"))
        self.breaks(houses, large[:3] + [("p", "g", "h", 1, False)], ("spare", "p"))
        self.breaks(houses, large[:3] + [("n", "g", "h", 2, False), ("p", "f", "g", 1, False)], ("spare", "p"))

    def test_the_first_number_counts(self):
        # Each row of this table breaks a later number than the row behind it.
        table = [("l", "a", "b", 0, False), ("m", "a", "b", 2, True), ("n", "a", "b", 0, True), ("o", "a", "b", 9, False),
                 ("p", "b", "a", 0, False)]
        self.breaks(["b", "a"], table, ("houses", 1))
        self.breaks(["a", "b"], table, ("row", 4))
        self.breaks(["a", "b"], table[:4], ("level", "m"))
        self.breaks(ABCD, table[:4], ("level", "o"))
        self.breaks(ABCD, table[:3], ("ring", "n"))
        self.breaks(ABCD, table[:2], ("size", 2, "a"))
        self.breaks(ABCD, table[:1], ("spare", "l"))

    def test_tables_of_stores_and_spoilt_ones(self):
        source = random.Random(52)
        found = set()
        for seed in range(20):
            store = grown(seed, 2 + seed % 9, 40 + 2 * seed)
            self.breaks(store.houses, store.table(), None)
            for _ in range(40):
                houses, table = spoilt(source, store.houses, store.table())
                due = broken(houses, table)
                found.add(due and due[0])
                self.breaks(houses, table, due)
                houses, table = spoilt(source, houses, table)
                self.breaks(houses, table, broken(houses, table))
        self.assertEqual(found, {None, "houses", "row", "level", "ring", "size", "spare"})

    def test_what_is_passed_stays(self):
        houses, table = list(ABCD), [("p", "a", "b", 0, True), ("q", "b", "c", 0, True), ("r", "a", "c", 0, False)]
        first_break(houses, table)
        is_table(houses, table)
        self.assertExactly((houses, table), (ABCD, [("p", "a", "b", 0, True), ("q", "b", "c", 0, True), ("r", "a", "c", 0, False)]))
        self.assertIs(first_break(tuple(ABCD), tuple(table)), None)

    def test_the_most_houses_and_lines(self):
        store = grown(1, 32, 240)
        self.breaks(store.houses, store.table(), None)
        houses = many_houses(32)
        table = [("l%02d" % at, houses[at], houses[at + 1], 0, True) for at in range(31)]
        table += [("m%02d" % at, houses[at % 31], houses[at % 31 + 1], 0, False) for at in range(65)]
        self.breaks(houses, table, None)
        table[95] = ("m64", "h00", "h01", 1, False)
        self.breaks(houses, table, ("spare", "m64"))


class BoundTest(KeptTest):
    def test_rise_bound(self):
        tops = [0, 0, 1, 1] + [2] * 4 + [3] * 8 + [4] * 16 + [5]
        for count, top in enumerate(tops):
            for puts in [0, 1, 7, 240]:
                self.assertExactly(rise_bound(count, puts), puts * (top - 1) if top else 0)

    def test_step_bound(self):
        tops = [1, 1, 1, 1] + [2] * 4 + [3] * 8 + [4] * 16 + [5]
        for count, top in enumerate(tops):
            self.assertExactly(step_bound(count, 0, 0, 0), 0)
            self.assertExactly(step_bound(count, 1, 0, 0), 7)
            self.assertExactly(step_bound(count, 0, 1, 0), 12 * top)
            self.assertExactly(step_bound(count, 0, 0, 1), 7)
            self.assertExactly(step_bound(count, 10, 6, 5), 105 + 72 * top)


class WithinTest(KeptTest):
    def within(self, count, **given):
        return is_within(count, {**dict.fromkeys(KEYS, 0), **given})

    def test_nothing_done(self):
        for count in range(33):
            self.assertIs(self.within(count), True)

    def test_counts_of_stores(self):
        for seed in range(12):
            for count in [2, 3, 5, 8, 13, 32]:
                houses = many_houses(count)
                store = Store(houses)
                for deed in random_deeds(seed, houses, ["l%02d" % at for at in range(30)], 60):
                    do(store, deed)
                    self.assertIs(is_within(count, store.counts()), True)
        self.assertIs(is_within(0, Store().counts()), True)
        self.assertIs(is_within(1, Store(["a"]).counts()), True)

    def test_no_negative_values(self):
        fine = dict(puts=20, takes=10, rises=5, found=3, joined=8, parted=2, cuts=40, splices=60)
        self.assertIs(self.within(16, **fine), True)
        for key in KEYS:
            self.assertIs(self.within(16, **{**fine, key: -1}), False)
            self.assertIs(self.within(16, **{**dict.fromkeys(KEYS, 0), key: -1}), False)

    def test_negative_values_that_keep_all_else(self):
        # Nothing but the sign is wrong here.
        for key in ["rises", "found", "cuts", "splices", "takes"]:
            self.assertIs(self.within(16, **{"puts": 20, key: -1}), False)
        self.assertIs(self.within(16, puts=20, joined=0, takes=5, found=5, parted=-1), False)
        self.assertIs(self.within(16, puts=20, takes=4, joined=-1, parted=-1), False)

    def test_takes(self):
        self.assertIs(self.within(8, puts=5, takes=5), True)
        self.assertIs(self.within(8, puts=5, takes=6), False)

    def test_joined(self):
        self.assertIs(self.within(8, puts=5, takes=1, joined=5, parted=1), True)
        self.assertIs(self.within(8, puts=5, takes=1, joined=6, parted=1), False)

    def test_found_and_parted(self):
        self.assertIs(self.within(8, puts=9, takes=5, found=3, parted=2, joined=4), True)
        self.assertIs(self.within(8, puts=9, takes=5, found=4, parted=2, joined=4), False)
        self.assertIs(self.within(8, puts=9, takes=5, found=3, parted=3, joined=4), False)

    def test_joined_less_parted(self):
        self.assertIs(self.within(8, puts=30, takes=9, joined=10, parted=3), True)
        self.assertIs(self.within(8, puts=30, takes=9, joined=11, parted=3), False)
        self.assertIs(self.within(8, puts=30, takes=9, joined=3, parted=3), True)
        self.assertIs(self.within(8, puts=30, takes=9, joined=3, parted=4), False)
        for count in [0, 1]:
            self.assertIs(self.within(count, puts=3, joined=1), False)
            self.assertIs(self.within(count, puts=3, takes=1, joined=1, parted=1), True)
        self.assertIs(self.within(2, puts=3, joined=1), True)
        self.assertIs(self.within(2, puts=3, joined=2), False)

    def test_rises(self):
        for count, factor in [(0, 0), (1, 0), (2, 0), (3, 0), (4, 1), (7, 1), (8, 2), (16, 3), (32, 4)]:
            self.assertIs(self.within(count, puts=6, rises=6 * factor), True)
            self.assertIs(self.within(count, puts=6, rises=6 * factor + 1), False)

    def test_steps(self):
        for count, factor in [(0, 1), (1, 1), (3, 1), (4, 2), (8, 3), (16, 4), (32, 5)]:
            most = 7 * 6 + 12 * factor * 4
            for cuts in [0, 1, most // 2, most]:
                self.assertIs(self.within(count, puts=6, takes=4, cuts=cuts, splices=most - cuts), True)
                self.assertIs(self.within(count, puts=6, takes=4, cuts=cuts, splices=most - cuts + 1), False)
                self.assertIs(self.within(count, puts=6, takes=4, cuts=cuts + 1, splices=most - cuts), False)
        self.assertIs(self.within(8, puts=6, rises=2, cuts=56), True)
        self.assertIs(self.within(8, puts=6, rises=2, cuts=57), False)

    def test_what_is_judged_stays(self):
        counts = dict.fromkeys(KEYS, 1)
        is_within(4, counts)
        self.assertExactly(counts, dict.fromkeys(KEYS, 1))


if __name__ == "__main__":
    unittest.main()
