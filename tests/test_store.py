"""Points 50 and 51, and 4 to 8 as far as they speak of stores."""

import unittest

from keptjoined.errors import KeptError
from keptjoined.levels import Levels
from keptjoined.store import Store
from keptjoined.webs import Web
from tests.helpers import (NO_NAMES, Alike, KeptTest, Unlike, all_ways, many_houses, many_lines, parts_by_hand, rows_of,
                           store_state)
from tests.references import NO_LEVELS, REFUSED, REFUSED_WITH_FORESTS, SMALL_LINES, do, random_deeds

LETTERS = list("abcdefghij")

# Calls that the small store refuses beside those that levels refuse: (method, arguments, code, value).
REFUSED_BY_STORES = [
    ("joined", ("A", "B"), "BadName", "A"), ("joined", ("z", "B"), "BadName", "B"),
    ("joined", ("y", "z"), "NoHouse", "y"), ("joined", ("a", "z"), "NoHouse", "z"),
    ("joined", ("z", "z"), "NoHouse", "z"), ("part_of", ("A",), "BadName", "A"), ("part_of", ("p",), "NoHouse", "p"),
    ("size_of", ("A",), "BadName", "A"), ("size_of", ("p",), "NoHouse", "p"), ("part_name", ("A",), "BadName", "A"),
    ("part_name", ("p",), "NoHouse", "p"),
]


def store_of(houses, lines=""):
    store = Store(houses.split())
    for line, a, b in rows_of(lines):
        store.put(line, a, b)
    return store


def small_store():
    """Two parts, a - b - c - d and e; q was taken, p and s have risen."""
    store = store_of("a b c d e", SMALL_LINES)
    store.take("q")
    return store


class StoreTest(KeptTest):
    def compare(self, store, levels, trace):
        """A store answers from levels that did the same deeds."""
        houses, lines = levels.houses, levels.lines
        self.assertExactly((store.houses, store.lines, store.top, len(store)), (houses, lines, levels.top, len(lines)))
        self.assertExactly((store.table(), store.counts(), store.trace()), (levels.table(), levels.counts(), trace))
        for level in range(levels.top + 1):
            self.assertExactly((store.pieces(level), store.tours(level), store.heights(level)),
                               (levels.pieces(level), levels.tours(level), levels.heights(level)))
        for line, _, _, level, _ in levels.table():
            self.assertExactly(store.level_of(line), level)
            self.assertIs(line in store, True)
        parts = parts_by_hand(houses, lines)
        self.assertExactly((store.parts(), store.part_count()), (parts, len(parts)))
        self.assertExactly(store.ties(), [row[0] for row in levels.table() if row[4]])
        self.assertExactly(store.spares(), [row[0] for row in levels.table() if not row[4]])
        self.assertTrue(store.web() == Web(houses, lines))
        self.assertEqual(len(store.ties()), len(houses) - len(parts))
        self.assertEqual(len(parts), len(houses) - store.counts()["joined"] + store.counts()["parted"])
        for part in parts:
            for a in part:
                self.assertExactly((store.part_of(a), store.size_of(a), store.part_name(a)), (part, len(part), part[0]))
                self.assertExactly(store.piece_of(store.top, a), levels.piece_of(store.top, a))
                for b in houses:
                    self.assertIs(store.joined(a, b), b in part)

    def compare_ways(self, store):
        ties = Web(store.houses, [row[:3] for row in store.table() if row[4]])
        for a in store.houses:
            for b in store.houses:
                ways = all_ways(ties, a, b)
                self.assertExactly(store.way(a, b), ways[0] if ways else None)


class SmallTest(StoreTest):
    def test_no_houses(self):
        for store in [Store(), Store([]), Store(())]:
            self.compare(store, Levels(), [])
            self.assertExactly((store.parts(), store.part_count(), store.pieces(0), store.tours(0)), ([], 0, [], []))
            self.assertRefused("BadNumber", [1], store.pieces, 1)
            self.assertRefused("NoHouse", ["a"], store.part_of, "a")

    def test_one_house(self):
        store = Store(["a"])
        self.compare(store, Levels(["a"]), [])
        self.assertExactly((store.way("a", "a"), store.joined("a", "a")), ([], True))
        self.assertRefused("SelfLine", ["p"], store.put, "p", "a", "a")

    def test_the_constructor(self):
        self.check_constructor(Store)

    def test_the_example_of_the_document(self):
        store = Store(["a", "b", "c"])
        self.assertExactly((store.put("p", "b", "a"), store.put("q", "a", "b"), store.take("p")), ((["a"], ["b"]), None, None))
        self.assertExactly((store.trace(), store.way("a", "b"), store.way("a", "c")),
                           ([("cut", 0), ("half", 0, "a", 1), ("found", "q", 0)], [("q", "a", "b")], None))

    def test_the_change_in_both_orders(self):
        for a, b in [("d", "b"), ("b", "d")]:
            store = store_of("a b c d e", "p a d, q b c")
            self.assertExactly(store.put("n", a, b), (["a", "d"], ["b", "c"]))
            self.assertExactly(store.take("n"), (["a", "d"], ["b", "c"]))
            self.assertExactly(store.put("m", "e", "c"), (["b", "c"], ["e"]))
            self.assertExactly(store.take("q"), (["b"], ["c", "e"]))
            self.assertExactly(store.take("p"), (["a"], ["d"]))

    def test_no_change(self):
        store = store_of("a b c", "p a b, q b c")
        self.assertIs(store.put("r", "a", "c"), None)
        self.assertIs(store.put("s", "c", "a"), None)
        self.assertIs(store.take("r"), None)
        # p is a tie, and s takes its place.
        self.assertIs(store.take("p"), None)
        self.assertExactly(store.trace()[-1], ("found", "s", 0))
        self.assertExactly(store.take("s"), (["a"], ["b", "c"]))

    def test_the_trace(self):
        store = Store(["a", "b"])
        self.assertExactly(store.trace(), [])
        self.assertRefused("NoLine", ["p"], store.take, "p")
        self.assertExactly(store.trace(), [])
        store.put("p", "a", "b")
        self.assertExactly(store.trace(), [("tie", 0)])
        self.assertRefused("Taken", ["p"], store.put, "p", "a", "b")
        self.assertExactly(store.trace(), [("tie", 0)])
        store.put("q", "a", "b")
        self.assertExactly(store.trace(), [("spare", 0)])
        store.take("q")
        self.assertExactly(store.trace(), [("spare", 0)])
        store.take("p")
        self.assertExactly(store.trace(), [("cut", 0), ("half", 0, "a", 1), ("none", 0)])
        self.assertRefused("NoLine", ["p"], store.take, "p")
        self.assertExactly(store.trace(), [("cut", 0), ("half", 0, "a", 1), ("none", 0)])

    def test_the_way_over_ties(self):
        store = store_of("a b c d", "p b a, q b c, r d c, v a d")
        self.assertExactly(store.way("a", "d"), [("p", "a", "b"), ("q", "b", "c"), ("r", "c", "d")])
        self.assertExactly(store.way("d", "a"), [("r", "d", "c"), ("q", "c", "b"), ("p", "b", "a")])
        self.assertExactly(store.way("b", "b"), [])

    def test_the_name_of_a_part_changes(self):
        store = store_of("a b c", "p b c")
        self.assertExactly(store.part_name("c"), "b")
        store.put("q", "a", "c")
        self.assertExactly(store.part_name("c"), "a")
        store.take("q")
        self.assertExactly(store.part_name("c"), "b")
        store.take("p")
        self.assertExactly(store.part_name("c"), "c")

    def test_in(self):
        store = small_store()
        self.assertExactly(len(store), 5)
        for line in "prstu":
            self.assertIs(line in store, True)
        for word in NO_NAMES + ["q", "a", "e", ("p",), ["p"], ("p", "a", "b"), "p r", Alike("p"), Unlike()]:
            self.assertIs(word in store, False)


class RefusedTest(StoreTest):
    def test_each_refusal(self):
        store = small_store()
        before = store_state(store)
        for method, given, code, value in REFUSED + REFUSED_WITH_FORESTS + REFUSED_BY_STORES:
            self.assertRefused(code, [value], getattr(store, method), *given)
            self.assertExactly(store_state(store), before)

    def test_no_names(self):
        store = small_store()
        before = store_state(store)
        for word in NO_NAMES:
            for call, given in [(store.put, (word, "a", "e")), (store.put, ("n", word, "e")), (store.put, ("n", "a", word)),
                                (store.take, (word,)), (store.level_of, (word,)), (store.piece_of, (1, word)),
                                (store.way, (word, "a")), (store.way, ("a", word)), (store.joined, (word, "a")),
                                (store.joined, ("a", word)), (store.part_of, (word,)), (store.size_of, (word,)),
                                (store.part_name, (word,))]:
                self.assertRefused("BadName", [word], call, *given)
        self.assertExactly(store_state(store), before)

    def test_no_levels(self):
        store = small_store()
        for number in NO_LEVELS:
            for method in ["pieces", "tours", "heights"]:
                self.assertRefused("BadNumber", [number], getattr(store, method), number)
            self.assertRefused("BadNumber", [number], store.piece_of, number, "A")

    def test_the_most_lines(self):
        houses = many_houses(32)
        store = Store(houses)
        for row in many_lines(96, houses):
            store.put(*row)
        before = store_state(store)
        self.assertRefused("TooMany", [96], store.put, "n", "h00", "h01")
        self.assertRefused("Taken", ["l00"], store.put, "l00", "h00", "h01")
        self.assertExactly(store_state(store), before)
        store.take("l95")
        self.assertIs(store.put("n", "h00", "h01"), None)

    def test_what_is_returned_may_be_changed(self):
        store = small_store()
        before = store_state(store)
        found = [store.houses, store.lines, store.parts(), store.parts()[0], store.part_of("a"), store.ties(), store.spares(),
                 store.trace(), store.table(), store.pieces(0), store.pieces(0)[0], store.piece_of(0, "a"), store.tours(0),
                 store.tours(0)[0], store.heights(0), store.way("b", "d"), store.way("a", "a"), store.web().lines]
        for one in found:
            one.append("z")
            one[:1] = []
        store.counts().clear()
        store.counts()["puts"] = 99
        self.assertExactly(store_state(store), before)
        for one in store.put("n", "a", "e"):
            one.clear()
        self.assertExactly(store.parts(), [["a", "b", "c", "d", "e"]])
        for one in store.take("n"):
            one.append("z")
        self.assertExactly(store.parts(), [["a", "b", "c", "d"], ["e"]])


class RunTest(StoreTest):
    def test_long_runs(self):
        for seed in range(8):
            houses = LETTERS[:2 + seed]
            deeds = random_deeds(seed, houses, ["p%d" % at for at in range(14)] + ["a", "b"], 120)
            store, levels = Store(houses), Levels(houses)
            for at, deed in enumerate(deeds):
                before = parts_by_hand(houses, levels.lines)
                trace = do(levels, deed)
                after = parts_by_hand(houses, levels.lines)
                more, fewer = (before, after) if deed[0] == "put" else (after, before)
                change = tuple(part for part in more if part not in fewer)
                self.assertExactly(do(store, deed), change or None)
                self.compare(store, levels, trace)
                if at % 5 == 0:
                    self.compare_ways(store)
                    with self.assertRaises(KeptError):
                        store.take("none")
                    self.assertExactly(store.trace(), trace)


if __name__ == "__main__":
    unittest.main()
