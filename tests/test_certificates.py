"""Points 55 to 57, and 5, 7 and 9 as far as they speak of certificates.py."""

import random
import unittest

from keptjoined.certificates import (
    answer, is_answer, is_parts_certificate, is_shortest_certificate, parts_certificate, shortest_certificate)
from keptjoined.plain import distances, shortest_way
from keptjoined.store import Store
from keptjoined.webs import Web
from tests.helpers import (
    NO_NAMES, KeptTest, all_ways, joined_by_hand, many_houses, parts_by_hand, random_webs, web_of)
from tests.references import do, random_deeds

NO_WORDS = ["", "Way", "ways", "cuts", "CUT", "parts", "shortest", "ring", "bridge", "way ", "w"]


def store_with(web):
    """A store that has put the lines of a web."""
    store = Store(web.houses)
    for line in web.lines:
        store.put(*line)
    return store


def stores(count):
    """Stores that have done many deeds."""
    for seed in range(count):
        houses = list("abcdefgh")[:2 + seed % 7]
        store = Store(houses)
        for deed in random_deeds(seed, houses, ["p", "q", "r", "s", "t", "a", "b", "l1", "l0"], 30 + seed):
            do(store, deed)
        yield store


class LaterStore(Store):
    """A store of a subclass, as the histories and logged stores are."""


class AnswerTest(KeptTest):
    def test_joined_equal_and_apart(self):
        store = store_with(web_of("a b c d e", "p a b, q b c, r c a, s e d"))
        self.assertExactly(answer(store, "a", "b"), ("way", [("p", "a", "b")]))
        # r is a spare, so the way over ties has two steps.
        self.assertExactly(answer(store, "c", "a"), ("way", [("q", "c", "b"), ("p", "b", "a")]))
        self.assertExactly(answer(store, "a", "a"), ("way", []))
        self.assertExactly(answer(store, "b", "d"), ("cut", ["a", "b", "c"]))
        self.assertExactly(answer(store, "d", "b"), ("cut", ["d", "e"]))

    def test_a_subclass(self):
        store = LaterStore(["a", "b", "c"])
        store.put("p", "a", "b")
        self.assertExactly(answer(store, "a", "b"), ("way", [("p", "a", "b")]))
        self.assertExactly(answer(store, "c", "b"), ("cut", ["c"]))
        self.assertExactly(parts_certificate(store), ("parts", [["a", "b"], ["c"]], ["p"]))

    def test_stores(self):
        for store in stores(20):
            web = store.web()
            for a in store.houses:
                for b in store.houses:
                    got = answer(store, a, b)
                    due = ("way", store.way(a, b)) if joined_by_hand(web.houses, web.lines, a, b) else ("cut", store.part_of(a))
                    self.assertExactly(got, due)
                    self.assertIs(is_answer(web, a, b, got), True)
                    got[1].clear()
                    self.assertExactly(answer(store, a, b), due)

    def test_errors(self):
        store = store_with(web_of("a b", "p a b"))
        for word in NO_NAMES:
            self.assertRefused("BadName", [word], answer, store, word, "z")
            self.assertRefused("BadName", [word], answer, store, "z", word)
        self.assertRefused("BadName", ["A"], answer, store, "A", "B")
        self.assertRefused("NoHouse", ["y"], answer, store, "y", "z")
        self.assertRefused("NoHouse", ["z"], answer, store, "a", "z")
        self.assertRefused("NoHouse", ["z"], answer, store, "z", "z")
        self.assertRefused("NoHouse", ["p"], answer, store, "a", "p")


class AnswerJudgeTest(KeptTest):
    WEB = web_of("a b c d e", "p a b, q b c, r c a, s e d")

    def judged(self, a, b, certificate, due):
        self.assertIs(is_answer(self.WEB, a, b, certificate), due, certificate)

    def test_ways(self):
        # Any way will do, not only that of the store.
        self.judged("c", "a", ("way", [("r", "c", "a")]), True)
        self.judged("c", "a", ("way", [("q", "c", "b"), ("p", "b", "a")]), True)
        self.judged("a", "a", ("way", []), True)
        self.judged("a", "b", ("way", []), False)
        self.judged("a", "b", ("way", [("p", "b", "a")]), False)
        self.judged("a", "b", ("way", [("x", "a", "b")]), False)
        self.judged("a", "b", ("way", [("p", "a", "b"), ("q", "b", "c")]), False)
        self.judged("a", "d", ("way", [("s", "a", "d")]), False)
        self.judged("z", "z", ("way", []), False)
        self.judged("", "", ("way", []), False)

    def test_cuts(self):
        self.judged("a", "d", ("cut", ["a", "b", "c"]), True)
        self.judged("d", "b", ("cut", ["d", "e"]), True)
        self.judged("a", "d", ("cut", ["a", "b"]), False)
        self.judged("a", "d", ("cut", ["b", "a", "c"]), False)
        self.judged("a", "d", ("cut", ["a", "a", "b", "c"]), False)
        self.judged("a", "d", ("cut", ["a", "b", "c", "z"]), False)
        self.judged("a", "d", ("cut", ["d", "e"]), False)
        self.judged("a", "b", ("cut", ["a", "b", "c"]), False)
        self.judged("a", "a", ("cut", ["a", "b", "c"]), False)
        self.judged("a", "z", ("cut", ["a", "b", "c"]), False)
        self.judged("z", "a", ("cut", ["d", "e"]), False)
        self.judged("a", "d", ("cut", []), False)

    def test_another_string(self):
        for word in NO_WORDS:
            self.judged("a", "b", (word, [("p", "a", "b")]), False)
            self.judged("a", "d", (word, ["a", "b", "c"]), False)
            self.judged("a", "a", (word, []), False)
        self.judged("a", "d", ("way", ["a", "b", "c"]), False)
        self.judged("a", "b", ("cut", [("p", "a", "b")]), False)

    def test_items_of_the_other_kind(self):
        self.judged("a", "b", ("way", [("p", "a", "b"), "pab"]), False)
        self.judged("a", "b", ("way", ["pab"]), False)
        self.judged("a", "b", ("way", ["p", ("p", "a", "b")]), False)
        self.judged("a", "b", ("way", [""]), False)
        self.judged("a", "b", ("way", ["sed", "a"]), False)
        self.judged("a", "d", ("cut", ["a", "b", ("p", "a", "b"), "c"]), False)
        self.judged("a", "d", ("cut", [("p", "a", "b"), "a", "b", "c"]), False)
        self.judged("a", "d", ("cut", ["a", "b", "c", ("p", "a", "b")]), False)
        self.judged("a", "d", ("cut", [("a", "b", "c")]), False)

    def test_a_string_of_three_signs_is_no_step(self):
        # Its characters would be a step of this web.
        self.judged("a", "b", ("way", ["pab"]), False)
        self.judged("c", "a", ("way", ["qcb", ("p", "b", "a")]), False)
        self.judged("c", "a", ("way", [("q", "c", "b"), "pba"]), False)

    def test_random_certificates(self):
        source = random.Random(55)
        for web in random_webs(40, 6, 8):
            if not web.houses:
                continue
            for _ in range(20):
                a, b = source.choice(web.houses + ["z"]), source.choice(web.houses + ["z"])
                steps = [(line, *source.sample(ends, 2)) for line, *ends in web.lines]
                way = source.sample(steps, min(len(steps), source.randint(0, 2)))
                due = a in web.houses and b in web.houses and way in all_ways(web, a, b)
                self.assertIs(is_answer(web, a, b, ("way", way)), due)
                side = source.choice(parts_by_hand(web.houses, web.lines) + [source.sample(web.houses, min(2, len(web.houses)))])
                crossed = any((low in side) != (high in side) for _, low, high in web.lines)
                due = side == sorted(side) and a in side and b not in side and b in web.houses and not crossed
                self.assertIs(is_answer(web, a, b, ("cut", side)), due)


class PartsTest(KeptTest):
    def test_small_stores(self):
        self.assertExactly(parts_certificate(Store()), ("parts", [], []))
        self.assertExactly(parts_certificate(Store(["b", "a"])), ("parts", [["a"], ["b"]], []))
        store = store_with(web_of("a b c d", "q a c, p c b, r a b"))
        self.assertExactly(parts_certificate(store), ("parts", [["a", "b", "c"], ["d"]], ["p", "q"]))

    def test_stores(self):
        for store in stores(20):
            got = parts_certificate(store)
            self.assertExactly(got, ("parts", store.parts(), store.ties()))
            self.assertIs(is_parts_certificate(store.web(), got), True)
            for found in got[1] + [got[1], got[2]]:
                found.clear()
            self.assertExactly(parts_certificate(store), ("parts", store.parts(), store.ties()))


class PartsJudgeTest(KeptTest):
    # a - b - c with a ring, d - e with two lines, and f.
    WEB = web_of("a b c d e f", "p a b, q b c, r c a, s d e, t e d")

    def judged(self, parts, ties, due, word="parts"):
        self.assertIs(is_parts_certificate(self.WEB, (word, parts, ties)), due)

    def test_right_ones(self):
        for ties in [["p", "q", "s"], ["q", "r", "t"], ["t", "r", "p"], ["s", "q", "p"]]:
            self.judged([["a", "b", "c"], ["d", "e"], ["f"]], ties, True)
            self.judged([["f"], ["e", "d"], ["b", "c", "a"]], ties, True)
        self.assertIs(is_parts_certificate(Web(), ("parts", [], [])), True)
        self.assertIs(is_parts_certificate(Web(["a"]), ("parts", [["a"]], [])), True)

    def test_another_string(self):
        for word in [word for word in NO_WORDS if word != "parts"] + ["Parts", "part"]:
            self.judged([["a", "b", "c"], ["d", "e"], ["f"]], ["p", "q", "s"], False, word)
            self.assertIs(is_parts_certificate(Web(), (word, [], [])), False)

    def test_an_empty_list(self):
        # With an empty list and a tie fewer the numbers agree.
        self.judged([["a", "b", "c"], ["d", "e"], ["f"], []], ["p", "q"], False)
        self.judged([[], ["a", "b", "c"], ["d", "e"], ["f"]], ["p", "q", "s"], False)
        self.assertIs(is_parts_certificate(Web(), ("parts", [[]], [])), False)
        self.assertIs(is_parts_certificate(Web(["a", "b"], [("p", "a", "b")]), ("parts", [["a", "b"], []], [])), False)

    def test_houses_that_are_missing_repeated_or_unknown(self):
        ties = ["p", "q", "s"]
        for parts in [[["a", "b", "c"], ["d", "e"]], [["a", "b", "c"], ["d"], ["f"]], [["a", "b", "c"], ["d", "e"], ["f", "f"]],
                      [["a", "b", "c"], ["d", "e"], ["f"], ["f"]], [["a", "b", "c"], ["d", "e", "f"], ["f"]],
                      [["a", "b", "c"], ["d", "e"], ["f", "z"]], [["a", "b", "c"], ["d", "e"], ["z"]],
                      [["a", "b", "c"], ["d", "e"], ["f"], ["z"]], [["a", "b", "c"], ["d", "e"], ["f"], [""]],
                      [["a", "b", "b"], ["d", "e"], ["f"]], [], [["p", "q", "r"], ["d", "e"], ["f"]]]:
            self.judged(parts, ties, False)
            self.judged(parts, ["p", "q"], False)
            self.judged(parts, [], False)
        web = Web(["a"])
        self.assertIs(is_parts_certificate(web, ("parts", [], [])), False)
        self.assertIs(is_parts_certificate(web, ("parts", [["a", "a"]], [])), False)
        self.assertIs(is_parts_certificate(web, ("parts", [["a"], ["a"]], [])), False)
        self.assertIs(is_parts_certificate(web, ("parts", [["b"]], [])), False)

    def test_a_line_between_two_lists(self):
        self.judged([["a", "b"], ["c"], ["d", "e"], ["f"]], ["p", "s"], False)
        self.judged([["a", "b", "c"], ["d"], ["e"], ["f"]], ["p", "q"], False)
        self.judged([["a"], ["b"], ["c"], ["d"], ["e"], ["f"]], [], False)

    def test_the_ties(self):
        parts = [["a", "b", "c"], ["d", "e"], ["f"]]
        for ties in [["p", "q", "r"], ["p", "q", "x"], ["p", "q", "q"], ["p", "q", ""], ["s", "t", "p"], ["p", "p", "s"],
                     ["p", "q", "a"]]:
            self.judged(parts, ties, False)

    def test_the_number_of_ties(self):
        parts = [["a", "b", "c"], ["d", "e"], ["f"]]
        for ties in [["p", "q"], ["s"], [], ["p", "q", "s", "x"], ["p", "q", "r", "s"]]:
            self.judged(parts, ties, False)
        # Two parts in one list: no line is between two lists, but a tie is missing.
        self.judged([["a", "b", "c"], ["d", "e", "f"]], ["p", "q", "s"], False)
        self.judged([["a", "b", "c", "d", "e", "f"]], ["p", "q", "s"], False)

    def test_what_is_judged_stays(self):
        certificate = ("parts", [["f"], ["e", "d"], ["b", "c", "a"]], ["s", "q", "p"])
        is_parts_certificate(self.WEB, certificate)
        self.assertExactly(certificate, ("parts", [["f"], ["e", "d"], ["b", "c", "a"]], ["s", "q", "p"]))

    def test_more_than_the_bounds(self):
        houses = many_houses(32)
        web = Web(houses)
        self.assertIs(is_parts_certificate(web, ("parts", [[house] for house in houses], [])), True)
        self.assertIs(is_parts_certificate(web, ("parts", [[house] for house in houses + ["x"]], [])), False)
        self.assertIs(is_parts_certificate(web, ("parts", [[house] for house in houses], ["l"] * 100)), False)


class ShortestTest(KeptTest):
    def test_small_webs(self):
        web = web_of("a b c d", "p a b, q b c, r a c")
        self.assertExactly(shortest_certificate(web, "a", "c"), ("shortest", [("r", "a", "c")], [("a", 0), ("b", 1), ("c", 1)]))
        self.assertExactly(shortest_certificate(web, "b", "b"), ("shortest", [], [("a", 1), ("b", 0), ("c", 1)]))
        self.assertIs(shortest_certificate(web, "a", "d"), None)
        self.assertExactly(shortest_certificate(web, "d", "d"), ("shortest", [], [("d", 0)]))

    def test_random_webs(self):
        for web in random_webs(60, 7, 10):
            for a in web.houses:
                for b in web.houses:
                    got = shortest_certificate(web, a, b)
                    if not joined_by_hand(web.houses, web.lines, a, b):
                        self.assertIs(got, None)
                        continue
                    self.assertExactly(got, ("shortest", shortest_way(web, a, b), distances(web, a)))
                    self.assertIs(is_shortest_certificate(web, a, b, got), True)
                    self.assertIs(is_shortest_certificate(web, a, b, (got[0], got[1], got[2][::-1])), True)

    def test_errors(self):
        web = web_of("a b", "p a b")
        for word in NO_NAMES:
            self.assertRefused("BadName", [word], shortest_certificate, web, word, "z")
            self.assertRefused("BadName", [word], shortest_certificate, web, "z", word)
        self.assertRefused("BadName", ["A"], shortest_certificate, web, "A", "B")
        self.assertRefused("NoHouse", ["y"], shortest_certificate, web, "y", "z")
        self.assertRefused("NoHouse", ["z"], shortest_certificate, web, "a", "z")
        self.assertRefused("NoHouse", ["z"], shortest_certificate, web, "z", "z")
        self.assertRefused("NoHouse", ["p"], shortest_certificate, web, "a", "p")


class ShortestJudgeTest(KeptTest):
    # a - b - c - d in a ring of five with e, and f - g.
    WEB = web_of("a b c d e f g", "p a b, q b c, r c d, s d e, t e a, u f g")
    WAY = [("p", "a", "b"), ("q", "b", "c")]
    COUNTS = [("a", 0), ("b", 1), ("c", 2), ("d", 2), ("e", 1)]

    def judged(self, way, counts, due, a="a", b="c", word="shortest"):
        self.assertIs(is_shortest_certificate(self.WEB, a, b, (word, way, counts)), due)

    def test_right_ones(self):
        self.judged(self.WAY, self.COUNTS, True)
        self.judged(self.WAY, self.COUNTS[::-1], True)
        self.judged(self.WAY, self.COUNTS[2:] + self.COUNTS[:2], True)
        self.judged([], self.COUNTS, True, b="a")

    def test_other_numbers(self):
        # Lower and negative numbers, and those of another part, are right as long as each step changes them by one.
        self.judged(self.WAY, [("a", 0), ("b", 1), ("c", 2), ("d", 1), ("e", 0)], True)
        self.judged(self.WAY, [("a", 0), ("b", 1), ("c", 2), ("d", 1), ("e", 1)], True)
        self.judged([], [("a", 0), ("b", -1), ("c", -2), ("d", -2), ("e", -1)], True, b="a")
        self.judged([], [("a", 0), ("b", 0), ("c", 0), ("d", 0), ("e", 0)], True, b="a")
        for f, g in [(0, 0), (9, 10), (-5, -4), (3, 2)]:
            self.judged(self.WAY, self.COUNTS + [("f", f), ("g", g)], True)
        self.judged(self.WAY, [("g", 5), ("f", 7)] + self.COUNTS, False)

    def test_another_string(self):
        for word in [word for word in NO_WORDS if word != "shortest"] + ["Shortest", "short"]:
            self.judged(self.WAY, self.COUNTS, False, word=word)

    def test_the_way(self):
        for way in [[], self.WAY[:1], self.WAY[1:], self.WAY[::-1], [("p", "a", "b"), ("x", "b", "c")],
                    [("p", "a", "b"), ("q", "c", "b")], [("t", "a", "e"), ("s", "e", "d")], self.WAY + [("q", "c", "b")]]:
            self.judged(way, self.COUNTS, False)
        # A way that is not shortest has more steps than any right number of its end.
        longer = [("t", "a", "e"), ("s", "e", "d"), ("r", "d", "c")]
        self.judged(longer, self.COUNTS, False)
        self.judged(longer, [("a", 0), ("b", 1), ("c", 3), ("d", 2), ("e", 1)], False)
        self.judged(longer, [("a", 0), ("b", 2), ("c", 3), ("d", 2), ("e", 1)], False)
        # From c to itself with a step more the number of c would be right.
        self.judged([("p", "a", "b")], [("a", 0), ("b", 1), ("c", 1), ("d", 1), ("e", 1)], False)

    def test_a_house_twice(self):
        self.judged(self.WAY, self.COUNTS + [("d", 2)], False)
        self.judged(self.WAY, [("c", 2)] + self.COUNTS, False)
        self.judged(self.WAY, [("d", 7)] + self.COUNTS, False)
        self.judged(self.WAY, self.COUNTS + [("f", 0), ("g", 0), ("f", 1)], False)

    def test_houses_that_do_not_stand(self):
        for house in ["z", "", "A", "p"]:
            self.judged(self.WAY, self.COUNTS + [(house, 0)], False)

    def test_the_number_of_the_start(self):
        self.judged(self.WAY, [("a", 1), ("b", 1), ("c", 2), ("d", 2), ("e", 1)], False)
        self.judged(self.WAY, [("a", -1), ("b", 0), ("c", 1), ("d", 1), ("e", 0)], False)
        self.judged(self.WAY, [(house, count + 1) for house, count in self.COUNTS], False)
        self.judged([("u", "f", "g")], [("f", 0), ("g", 1)], True, "f", "g")
        self.judged([("u", "f", "g")], [("f", 1), ("g", 1)], False, "f", "g")

    def test_the_number_of_the_end(self):
        self.judged([("u", "f", "g")], [("f", 0), ("g", 0)], False, "f", "g")
        self.judged([("u", "f", "g")], [("f", 0), ("g", -1)], False, "f", "g")
        self.judged(self.WAY, [("a", 0), ("b", 1), ("c", 1), ("d", 1), ("e", 1)], False)

    def test_numbers_that_change_by_two(self):
        # A line apart from the way, in the part of the way and in another one; up and down.
        self.judged(self.WAY, [("a", 0), ("b", 1), ("c", 2), ("d", 2), ("e", 2)], False)
        self.judged(self.WAY, [("a", 0), ("b", 1), ("c", 2), ("d", 2), ("e", -2)], False)
        self.judged(self.WAY, [("a", 0), ("b", 1), ("c", 2), ("d", 0), ("e", 0)], False)
        self.judged(self.WAY, self.COUNTS + [("f", 3), ("g", 5)], False)
        self.judged(self.WAY, self.COUNTS + [("f", 5), ("g", 3)], False)

    def test_a_line_with_one_end_listed(self):
        self.judged(self.WAY, self.COUNTS[:4], False)
        self.judged(self.WAY, self.COUNTS[:3], False)
        self.judged(self.WAY, self.COUNTS[1:], False)
        self.judged(self.WAY, self.COUNTS + [("f", 0)], False)
        self.judged(self.WAY, self.COUNTS + [("g", 0)], False)
        self.judged(self.WAY, [], False)
        self.judged([], [], False, b="a")

    def test_houses_that_are_none(self):
        self.judged([], [], False, "z", "z")
        self.judged([], self.COUNTS, False, "z", "z")
        self.judged([], [("z", 0)], False, "z", "z")
        self.judged(self.WAY, self.COUNTS, False, "a", "z")
        self.judged(self.WAY, self.COUNTS, False, "z", "c")

    def test_random_numbers(self):
        source = random.Random(57)
        for web in random_webs(60, 5, 6):
            for a in web.houses:
                for b in web.houses:
                    for way in all_ways(web, a, b)[:3]:
                        for _ in range(4):
                            counts = [(house, count + source.choice([0, 0, 0, 1, -1])) for house, count in distances(web, a)]
                            counts = counts[:len(counts) - source.randrange(5) // 4]
                            numbers = dict(counts)
                            due = numbers.get(a) == 0 and numbers.get(b) == len(way) and all(
                                (low in numbers) == (high in numbers) and abs(numbers.get(low, 0) - numbers.get(high, 0)) <= 1
                                for _, low, high in web.lines)
                            self.assertIs(is_shortest_certificate(web, a, b, ("shortest", way, counts)), due)
                            self.assertFalse(due and len(way) > len(shortest_way(web, a, b)))


if __name__ == "__main__":
    unittest.main()
