"""Points 89 to 91, and 4 to 8 as far as they speak of plain stores and questions."""

import random
import unittest
import unittest.mock

from keptjoined.errors import KeptError
from keptjoined.history import History
from keptjoined.log import LoggedStore
from keptjoined.plain import is_way, shortest_way
from keptjoined.plainstore import PlainStore, ask, ask_all, disagreement
from keptjoined.store import Store
from keptjoined.webs import Web
from tests.helpers import (NO_NAMES, Alike, KeptTest, Unlike, all_ways, many_houses, many_lines, parts_by_hand, rows_of,
                           store_state)
from tests.references import deed_fault, do, random_deeds

NAMES = ["p%d" % at for at in range(12)] + ["a", "b"]
KINDS = [Store, History, LoggedStore, PlainStore]

# What is no question; the number of items or the first item is wrong.
NO_QUESTIONS = [
    None, True, 0, 3, 1.5, "", "joined", "parts", "count", b"parts", {}, {"parts": 1}, {"parts"}, object(), Alike("parts"),
    Unlike(), (), [], ("joined",), ["joined", "a"], ("joined", "a", "b", "c"), ("way",), ("way", "a"), ["way", "a", "b", "c"],
    ("part",), ("part", "a", "b"), ("size",), ["size", "a", "b"], ("name",), ("name", "a", "b"), ("parts", "a"),
    ["parts", "a", "b"], ("count", "a"), ("Joined", "a", "b"), ("", "a"), ("",), ("part_of", "a"), ("part_count",), ("web",),
    ("houses",), (None, "a"), (None,), (0,), (True, "a"), (1.0,), (b"parts",), (["parts"],), ({},), ({"parts": 1}, "a"),
    (("parts",),), [["joined"], "a", "b"], (Alike("parts"),), (Alike("joined"), "a", "b"), (Unlike(), "a"), [Unlike()],
]

# Questions that the small stores refuse, each with its error.
REFUSED = [
    (("joined", "A", "B"), "BadName", "A"), (("joined", "z", "B"), "BadName", "B"), (("joined", "y", "z"), "NoHouse", "y"),
    (("joined", "a", "z"), "NoHouse", "z"), (("joined", "z", "z"), "NoHouse", "z"), (("way", "A", "B"), "BadName", "A"),
    (("way", "z", "B"), "BadName", "B"), (("way", "y", "z"), "NoHouse", "y"), (("way", "a", "z"), "NoHouse", "z"),
    (("way", "z", "z"), "NoHouse", "z"), (("part", "A"), "BadName", "A"), (("part", "p"), "NoHouse", "p"),
    (("size", "A"), "BadName", "A"), (("size", "p"), "NoHouse", "p"), (("name", "A"), "BadName", "A"),
    (("name", "p"), "NoHouse", "p"),
]


def made(kind, houses, lines=""):
    store = kind(houses.split())
    for line, a, b in rows_of(lines):
        store.put(line, a, b)
    return store


def ring(kind):
    """A ring of five houses whose way over ties is not the shortest one, and a house alone."""
    return made(kind, "a b c d e f", "p a b, q b c, r c d, s d e, t a e")


def state(store):
    """All that can be seen of a store of either kind."""
    if not isinstance(store, PlainStore):
        return store_state(store)
    houses = store.houses
    return [houses, store.lines, len(store), store.parts(), store.part_count(), store.web().houses, store.web().lines,
            [(store.part_of(house), store.size_of(house), store.part_name(house)) for house in houses],
            [(store.joined(a, b), store.way(a, b)) for a in houses for b in houses]]


class PlainStoreTest(KeptTest):
    def compare(self, plain, store):
        """A plain store beside a store that did the same."""
        self.assertExactly((plain.houses, plain.lines, len(plain)), (store.houses, store.lines, len(store)))
        self.assertExactly((plain.parts(), plain.part_count()), (store.parts(), store.part_count()))
        self.assertExactly(plain.parts(), parts_by_hand(plain.houses, plain.lines))
        self.assertIs(type(plain.web()), Web)
        self.assertTrue(plain.web() == store.web())
        for line in NAMES:
            self.assertIs(line in plain, line in store)
        for a in plain.houses:
            self.assertExactly((plain.part_of(a), plain.size_of(a), plain.part_name(a)),
                               (store.part_of(a), store.size_of(a), store.part_name(a)))
            for b in plain.houses:
                self.assertExactly(plain.joined(a, b), store.joined(a, b))
                self.assertExactly(plain.way(a, b), shortest_way(store.web(), a, b))

    def test_no_houses_and_one(self):
        for plain in [PlainStore(), PlainStore([]), PlainStore(())]:
            self.compare(plain, Store())
            self.assertRefused("NoHouse", ["a"], plain.part_of, "a")
        plain = PlainStore(["a"])
        self.compare(plain, Store(["a"]))
        self.assertRefused("SelfLine", ["p"], plain.put, "p", "a", "a")

    def test_the_constructor(self):
        self.check_constructor(PlainStore)

    def test_long_runs(self):
        for seed in range(8):
            houses = many_houses(2 + seed)
            plain, store = PlainStore(houses), Store(houses)
            for deed in random_deeds(seed, houses, NAMES, 60):
                self.assertExactly(do(plain, deed), do(store, deed))
                self.compare(plain, store)

    def test_the_way_is_the_shortest(self):
        plain, store = ring(PlainStore), ring(Store)
        self.assertExactly(plain.way("a", "e"), [("t", "a", "e")])
        self.assertEqual(len(store.way("a", "e")), 4)
        self.assertExactly(plain.way("a", "c"), [("p", "a", "b"), ("q", "b", "c")])
        self.assertExactly((plain.way("a", "f"), plain.way("f", "f")), (None, []))
        self.assertIn(plain.way("b", "e"), all_ways(plain.web(), "b", "e"))

    def test_changes(self):
        for a, b in [("d", "b"), ("b", "d")]:
            plain = made(PlainStore, "a b c d e", "p a d, q b c")
            self.assertExactly(plain.put("n", a, b), (["a", "d"], ["b", "c"]))
            self.assertIs(plain.put("m", "a", "c"), None)
            self.assertIs(plain.take("n"), None)
            self.assertExactly(plain.take("m"), (["a", "d"], ["b", "c"]))

    def test_refusals(self):
        plain = ring(PlainStore)
        before = state(plain)
        lines = plain.lines
        for deed in [("put", "N", "A", "B"), ("put", "n", "A", "z"), ("put", "n", "z", "B"), ("put", "n", "y", "z"),
                     ("put", "n", "a", "z"), ("put", "p", "z", "z"), ("put", "n", "a", "a"), ("put", "p", "a", "a"),
                     ("put", "p", "a", "b"), ("put", "p", "e", "f"), ("take", "P"), ("take", "n"), ("take", "a"),
                     ("put", "n", "p", "a")]:
            code, value = deed_fault(plain.houses, lines, 0, deed)
            self.assertRefused(code, [value], do, plain, deed)
        for (word, *given), code, value in REFUSED:
            method = {"part": "part_of", "size": "size_of", "name": "part_name"}.get(word, word)
            self.assertRefused(code, [value], getattr(plain, method), *given)
        for word in NO_NAMES:
            for call, given in [(plain.put, (word, "a", "f")), (plain.put, ("n", word, "f")), (plain.put, ("n", "a", word)),
                                (plain.take, (word,)), (plain.way, (word, "z")), (plain.way, ("z", word)),
                                (plain.joined, (word, "z")), (plain.joined, ("z", word)), (plain.part_of, (word,)),
                                (plain.size_of, (word,)), (plain.part_name, (word,))]:
                self.assertRefused("BadName", [word], call, *given)
        self.assertExactly(state(plain), before)

    def test_the_most_lines(self):
        houses = many_houses(32)
        plain = PlainStore(houses)
        for row in many_lines(96, houses):
            plain.put(*row)
        self.assertRefused("TooMany", [96], plain.put, "n", "h00", "h01")
        self.assertRefused("Taken", ["l00"], plain.put, "l00", "h00", "h01")
        self.assertRefused("SelfLine", ["l00"], plain.put, "l00", "h00", "h00")
        plain.take("l95")
        self.assertIs(plain.put("n", "h00", "h01"), None)

    def test_in(self):
        plain = ring(PlainStore)
        for line in "pqrst":
            self.assertIs(line in plain, True)
        for word in NO_NAMES + ["n", "a", ("p",), ["p"], ("p", "a", "b"), Alike("p"), Unlike()]:
            self.assertIs(word in plain, False)

    def test_what_is_returned_may_be_changed(self):
        plain = ring(PlainStore)
        before = state(plain)
        for found in [plain.houses, plain.lines, plain.parts(), plain.parts()[0], plain.part_of("a"), plain.way("a", "c"),
                      plain.way("a", "a"), plain.web().lines, plain.web().houses]:
            found.append("z")
            found[:1] = []
        self.assertExactly(state(plain), before)
        web = plain.web()
        plain.take("p")
        self.assertEqual(len(web), 5)


class AskTest(KeptTest):
    def test_each_word(self):
        for kind in KINDS:
            store = ring(kind)
            before = state(store)
            for question, due in [
                    (("joined", "a", "c"), True), (("joined", "a", "f"), False), (("way", "a", "b"), [("p", "a", "b")]),
                    (("way", "b", "a"), [("p", "b", "a")]), (("way", "f", "f"), []), (("way", "f", "a"), None),
                    (("part", "e"), ["a", "b", "c", "d", "e"]), (("part", "f"), ["f"]), (("size", "e"), 5), (("size", "f"), 1),
                    (("name", "e"), "a"), (("name", "f"), "f"), (("parts",), [["a", "b", "c", "d", "e"], ["f"]]),
                    (("count",), 2), (("way", "a", "e"), store.way("a", "e"))]:
                self.assertExactly(ask(store, question), due)
                self.assertExactly(ask(store, list(question)), due)
            self.assertExactly(state(store), before)

    def test_no_questions(self):
        for kind in KINDS:
            store = ring(kind)
            for question in NO_QUESTIONS:
                self.assertRefused("BadAsk", [], ask, store, question)
                self.assertRefused("BadAsk", [], ask_all, store, [("count",), question, ("part", "A")])
                self.assertRefused("BadAsk", [], disagreement, store, ring(Store), [("count",), question, ("part", "A")])

    def test_errors_of_the_methods(self):
        for kind in KINDS:
            store = ring(kind)
            for question, code, value in REFUSED:
                self.assertRefused(code, [value], ask, store, question)
                self.assertRefused(code, [value], ask, store, list(question))
            for word in NO_NAMES:
                for question in [("joined", word, "z"), ("joined", "z", word), ("way", word, "z"), ["way", "z", word],
                                 ("part", word), ("size", word), ["name", word]]:
                    self.assertRefused("BadName", [word], ask, store, question)

    def test_ask_all(self):
        for kind in KINDS:
            store = ring(kind)
            questions = [("count",), ["joined", "a", "f"], ("part", "f"), ["parts"]]
            due = [2, False, ["f"], [["a", "b", "c", "d", "e"], ["f"]]]
            self.assertExactly(ask_all(store, questions), due)
            self.assertExactly(ask_all(store, tuple(questions)), due)
            self.assertExactly(ask_all(store, []), [])
            self.assertExactly(questions, [("count",), ["joined", "a", "f"], ("part", "f"), ["parts"]])
            # The first question that raises an error ends it.
            self.assertRefused("NoHouse", ["z"], ask_all, store, [("count",), ("part", "z"), None])
            self.assertRefused("BadAsk", [], ask_all, store, [("count",), None, ("part", "z")])
            found = ask_all(store, questions)
            found[2].append("z")
            found[3][0].append("z")
            self.assertExactly(ask_all(store, questions), due)


class DisagreementTest(KeptTest):
    def pairs(self, houses, lines, others):
        """All pairs of stores of all kinds with these lines."""
        return [(made(kind, houses, lines), made(other, houses, others)) for kind in KINDS for other in KINDS]

    def test_none(self):
        questions = [("joined", "a", "e"), ["way", "a", "e"], ("way", "e", "b"), ("part", "a"), ["size", "d"], ("name", "d"),
                     ("parts",), ["count"], ("way", "a", "f"), ("way", "f", "f")]
        for kind in KINDS:
            for other in KINDS:
                first, second = ring(kind), ring(other)
                before = state(first), state(second)
                self.assertIs(disagreement(first, second, questions), None)
                self.assertIs(disagreement(first, second, tuple(questions)), None)
                self.assertIs(disagreement(first, second, []), None)
                self.assertExactly((state(first), state(second)), before)

    def test_each_word(self):
        for first, second in self.pairs("a b c d", "p a b, q b c", "p a b"):
            for question in [("joined", "a", "c"), ("way", "a", "c"), ("way", "c", "b"), ("part", "a"), ("part", "c"), ("size", "b"),
                             ("name", "c"), ("parts",), ("count",), ["joined", "c", "b"]]:
                for store, other in [(first, second), (second, first)]:
                    self.assertExactly(disagreement(store, other, [question]), 0)
                    self.assertExactly(disagreement(store, other, [("name", "d"), ("way", "a", "b"), question, question]), 2)
            self.assertIs(disagreement(first, second, [("joined", "a", "b"), ("part", "d"), ("way", "a", "d"), ("name", "a")]), None)

    def test_ways_that_differ_and_agree(self):
        for first, second in self.pairs("a b c", "p a b, q b c", "r b a, s c a"):
            for question in [("way", "a", "c"), ["way", "c", "b"], ("way", "b", "a")]:
                self.assertNotEqual(ask(first, question), ask(second, question))
                self.assertIs(disagreement(first, second, [question]), None)
                self.assertIs(disagreement(second, first, [question]), None)
        # The way of each is none in the web of the other.
        self.assertFalse(is_way(first.web(), "a", "c", second.way("a", "c")))

    def test_an_answer_that_is_no_way(self):
        # No store gives one, so one is made to do it.
        for wrong in [[], [("p", "b", "a")], [("r", "a", "b")], [("p", "a", "b"), ("q", "b", "c"), ("q", "c", "b")]]:
            with unittest.mock.patch.object(PlainStore, "way", return_value=wrong):
                plain = made(PlainStore, "a b c", "p a b, q b c")
                for other in [made(Store, "a b c", "p a b, q b c"), made(Store, "a b c", "r a b")]:
                    self.assertExactly(disagreement(plain, other, [("way", "a", "b")]), 0)
                    self.assertExactly(disagreement(other, plain, [("way", "a", "b")]), 0)

    def test_one_way_that_is_none(self):
        for first, second in self.pairs("a b", "p a b", ""):
            self.assertExactly(disagreement(first, second, [("way", "a", "a"), ("way", "a", "b")]), 1)
            self.assertExactly(disagreement(second, first, [("way", "b", "a")]), 0)

    def test_two_ways_that_are_none(self):
        for first, second in self.pairs("a b c", "p a b", "q b a"):
            self.assertIs(disagreement(first, second, [("way", "a", "c"), ("way", "c", "b")]), None)

    def test_errors(self):
        for kind in KINDS:
            for other in KINDS:
                first, second = made(kind, "a b x"), made(other, "a b y")
                self.assertRefused("NoHouse", ["y"], disagreement, first, second, [("part", "y")])
                self.assertRefused("NoHouse", ["x"], disagreement, first, second, [("part", "x")])
                # Both lack one of the two houses, and the first is asked first.
                self.assertRefused("NoHouse", ["y"], disagreement, first, second, [("joined", "x", "y")])
                self.assertRefused("NoHouse", ["x"], disagreement, second, first, [("joined", "x", "y")])
                self.assertRefused("NoHouse", ["y"], disagreement, first, second, [["way", "x", "y"]])
                self.assertRefused("BadName", ["A"], disagreement, first, second, [("count",), ("part", "A"), None])

    def test_questions_behind_the_first_disagreement(self):
        for first, second in self.pairs("a b", "p a b", ""):
            for wrong in [None, (), ("part", "A"), ("part", "z"), ("nothing",)]:
                self.assertExactly(disagreement(first, second, [("name", "a"), ("count",), wrong]), 1)
                self.assertExactly(disagreement(first, second, [("way", "a", "b"), wrong]), 0)
                with self.assertRaises(KeptError):
                    disagreement(first, second, [("name", "a"), wrong, ("count",)])

    def test_long_runs(self):
        source = random.Random(91)
        for seed in range(10):
            houses = many_houses(3 + seed % 4)
            stores = [Store(houses), PlainStore(houses)]
            deeds = random_deeds(seed, houses, NAMES, 40)
            for deed in deeds:
                for store in stores:
                    do(store, deed)
                questions = [source.choice([("joined", *source.choices(houses, k=2)), ("way", *source.choices(houses, k=2)),
                                            ("part", source.choice(houses)), ("parts",), ("count",)]) for _ in range(8)]
                self.assertIs(disagreement(*stores, questions), None)
                other = PlainStore(houses)
                for row in stores[0].lines[1:]:
                    other.put(*row)
                answers = [ask_all(store, questions) for store in (stores[0], other)]
                due = [at for at, (one, two) in enumerate(zip(*answers))
                       if ((one is None) != (two is None) if questions[at][0] == "way" else one != two)]
                self.assertExactly(disagreement(stores[0], other, questions), due[0] if due else None)


if __name__ == "__main__":
    unittest.main()
