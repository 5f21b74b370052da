"""Points 64 to 67, and 4 to 9 as far as they speak of weights.py."""

import copy
import random
import unittest

from keptjoined.webs import Web
from keptjoined.weights import WeightForest, is_lightest, plain_lightest
from tests.helpers import (NO_NAMES, Alike, KeptTest, Unlike, all_ways, joined_by_hand, many_houses, many_lines, rows_of,
                           web_of)

NO_WEIGHTS = [-1, 1000000, 10 ** 30, -10 ** 30, True, False, 1.0, 0.0, None, "5", "", b"5", [], [5], (5,), {}, object()]

# Calls that the small forest refuses, each with its error: (method, arguments, code, value).
REFUSED = [
    ("put", ("N", "A", "B", -1), "BadName", "N"), ("put", ("n", "A", "B", -1), "BadName", "A"),
    ("put", ("n", "z", "B", -1), "BadName", "B"), ("put", ("n", "z", "y", -1), "BadNumber", -1),
    ("put", ("p", "z", "z", 1000000), "BadNumber", 1000000), ("put", ("p", "a", "a", True), "BadNumber", True),
    ("put", ("n", "z", "y", 5), "NoHouse", "z"), ("put", ("n", "a", "z", 5), "NoHouse", "z"),
    ("put", ("p", "z", "z", 5), "NoHouse", "z"), ("put", ("n", "p", "a", 5), "NoHouse", "p"),
    ("put", ("n", "a", "a", 5), "SelfLine", "n"), ("put", ("p", "a", "a", 5), "SelfLine", "p"),
    ("put", ("p", "a", "b", 2), "Taken", "p"), ("put", ("s", "d", "e", 1), "Taken", "s"),
    ("put", ("r", "d", "e", 1), "Taken", "r"), ("weight_of", ("P",), "BadName", "P"),
    ("weight_of", ("n",), "NoLine", "n"), ("weight_of", ("a",), "NoLine", "a"), ("ring_of", ("P",), "BadName", "P"),
    ("ring_of", ("n",), "NoLine", "n"), ("ring_of", ("a",), "NoLine", "a"), ("heaviest", ("A", "B"), "BadName", "A"),
    ("heaviest", ("z", "B"), "BadName", "B"), ("heaviest", ("y", "z"), "NoHouse", "y"),
    ("heaviest", ("a", "z"), "NoHouse", "z"), ("heaviest", ("z", "z"), "NoHouse", "z"),
    ("heaviest", ("p", "a"), "NoHouse", "p"),
]


def forest_of(houses, lines=""):
    forest = WeightForest(houses.split())
    for line, a, b, weight in rows_of(lines):
        forest.put(line, a, b, int(weight))
    return forest


def small_forest():
    """p, q and s are kept, r is out; d - e and f are parts of their own."""
    return forest_of("a b c d e f", "p a b 2, q b c 4, r a c 4, s e d 7")


def state(forest):
    """All that can be seen of a forest."""
    houses, lines = forest.houses, forest.lines
    return copy.deepcopy([
        houses, lines, len(forest), forest.kept(), forest.outs(), forest.weights(), forest.weight_sum(),
        forest.web().houses, forest.web().lines, [forest.weight_of(row[0]) for row in lines],
        [forest.ring_of(row[0]) for row in lines], [forest.heaviest(a, b) for a in houses for b in houses]])


def light_lines(houses, lines, weights):
    """The lines whose ends are not joined by the lines of lesser rank."""
    ranks = {row[0]: (weights[row[0]], row[0]) for row in lines}
    return sorted(row[0] for row in lines if not joined_by_hand(
        houses, [other for other in lines if ranks[other[0]] < ranks[row[0]]], row[1], row[2]))


def random_lines(source, houses, count, weights):
    """Lines with their weights, in any order of names and ends."""
    names = source.sample(["l%d" % at for at in range(96)] + ["a", "b"], count)
    return [(name, *source.sample(houses, 2), source.choice(weights)) for name in names]


class ForestTest(KeptTest):
    def compare(self, forest, houses, put):
        """The forest beside the list of the lines put, each with its weight."""
        lines = sorted((line, min(a, b), max(a, b)) for line, a, b, _ in put)
        weights = {row[0]: row[3] for row in put}
        kept = light_lines(houses, lines, weights)
        self.assertExactly((forest.houses, forest.lines, len(forest)), (sorted(houses), lines, len(lines)))
        self.assertExactly(forest.kept(), kept)
        self.assertExactly(forest.outs(), [row[0] for row in lines if row[0] not in kept])
        self.assertExactly(forest.weights(), weights)
        self.assertExactly(forest.weight_sum(), sum(weights[line] for line in kept))
        for line in weights:
            self.assertExactly(forest.weight_of(line), weights[line])
            self.assertIs(line in forest, True)
        self.assertTrue(forest.web() == Web(houses, lines))
        self.assertExactly(plain_lightest(forest.web(), weights), kept)
        self.assertIs(is_lightest(forest.web(), weights, kept), True)

    def compare_ways(self, forest):
        """Heaviest lines and rings against a search of the kept lines."""
        weights, lines = forest.weights(), forest.lines
        kept = Web(forest.houses, [row for row in lines if row[0] in forest.kept()])
        ranks = sorted((weights[row[0]], row[0]) for row in lines)
        for a in forest.houses:
            for b in forest.houses:
                ways = all_ways(kept, a, b)
                due = max(((weights[step[0]], step[0]) for step in ways[0]), default=None) if ways else None
                self.assertExactly(forest.heaviest(a, b), due)
                if a < b:
                    # The least rank up to which all lines put together join the two.
                    reach = [rank for rank in ranks if joined_by_hand(
                        forest.houses, [row for row in lines if (weights[row[0]], row[0]) <= rank], a, b)]
                    self.assertExactly(reach[0] if reach else None, due)
        for line, low, high in lines:
            self.assertExactly(forest.ring_of(line), None if line in forest.kept() else all_ways(kept, low, high)[0])


class SmallTest(ForestTest):
    def test_no_houses_and_one(self):
        for forest in [WeightForest(), WeightForest([]), WeightForest(())]:
            self.compare(forest, [], [])
            self.assertRefused("NoHouse", ["a"], forest.heaviest, "a", "b")
        forest = WeightForest(["a"])
        self.compare(forest, ["a"], [])
        self.assertIs(forest.heaviest("a", "a"), None)
        self.assertRefused("SelfLine", ["p"], forest.put, "p", "a", "a", 0)

    def test_the_constructor(self):
        self.check_constructor(WeightForest)

    def test_the_example_of_the_document(self):
        forest = WeightForest(["a", "b", "c"])
        self.assertExactly([forest.put("p", "a", "b", 5), forest.put("q", "b", "c", 5), forest.put("r", "a", "c", 5),
                            forest.put("s", "a", "c", 1)], [None, None, "r", "q"])
        self.assertExactly((forest.kept(), forest.outs(), forest.weight_sum()), (["p", "s"], ["q", "r"], 6))

    def test_what_put_returns(self):
        forest = forest_of("a b c d", "p a b 3")
        self.assertExactly(forest.put("q", "b", "a", 4), "q")
        self.assertExactly(forest.put("r", "b", "a", 2), "p")
        self.assertExactly((forest.kept(), forest.outs()), (["r"], ["p", "q"]))
        self.assertIs(forest.put("s", "c", "d", 9), None)
        self.assertIs(forest.put("t", "b", "c", 9), None)
        # Both s and t weigh 9, so t is the heavier, and a line that weighs as much is heavier if its name is greater.
        self.assertExactly(forest.put("u", "d", "a", 9), "u")
        self.assertExactly(forest.put("m", "d", "a", 9), "t")
        self.assertExactly(forest.put("n", "c", "b", 8), "s")
        self.assertExactly((forest.kept(), forest.outs()), (["m", "n", "r"], ["p", "q", "s", "t", "u"]))
        self.assertExactly(forest.lines, [("m", "a", "d"), ("n", "b", "c"), ("p", "a", "b"), ("q", "a", "b"), ("r", "a", "b"),
                                          ("s", "c", "d"), ("t", "b", "c"), ("u", "a", "d")])

    def test_heaviest_and_rings(self):
        forest = small_forest()
        self.assertExactly(forest.heaviest("a", "c"), (4, "q"))
        self.assertExactly(forest.heaviest("c", "a"), (4, "q"))
        self.assertExactly(forest.heaviest("b", "a"), (2, "p"))
        for a, b in [("a", "a"), ("f", "f"), ("a", "d"), ("e", "f"), ("f", "a")]:
            self.assertIs(forest.heaviest(a, b), None)
        self.assertExactly(forest.ring_of("r"), [("p", "a", "b"), ("q", "b", "c")])
        for line in "pqs":
            self.assertIs(forest.ring_of(line), None)
        # The ring is that of the lines that are kept now, not of those that were kept when the line went out.
        self.assertExactly(forest.put("t", "c", "f", 1), None)
        self.assertExactly(forest.put("u", "f", "b", 1), "q")
        self.assertExactly(forest.ring_of("r"), [("p", "a", "b"), ("u", "b", "f"), ("t", "f", "c")])
        self.assertExactly(forest.ring_of("q"), [("u", "b", "f"), ("t", "f", "c")])

    def test_in(self):
        forest = small_forest()
        for line in "pqrs":
            self.assertIs(line in forest, True)
        for word in NO_NAMES + ["n", "a", "f", ("p",), ["p"], ("p", "a", "b"), "p q", Alike("p"), Unlike()]:
            self.assertIs(word in forest, False)


class RefusedTest(ForestTest):
    def test_each_refusal(self):
        forest = small_forest()
        before = state(forest)
        for method, given, code, value in REFUSED:
            self.assertRefused(code, [value], getattr(forest, method), *given)
            self.assertExactly(state(forest), before)

    def test_no_names(self):
        forest = small_forest()
        before = state(forest)
        for word in NO_NAMES:
            for call, given in [(forest.put, (word, "a", "b", -1)), (forest.put, ("n", word, "b", -1)),
                                (forest.put, ("n", "a", word, -1)), (forest.weight_of, (word,)), (forest.ring_of, (word,)),
                                (forest.heaviest, (word, "a")), (forest.heaviest, ("a", word))]:
                self.assertRefused("BadName", [word], call, *given)
        self.assertExactly(state(forest), before)

    def test_weights(self):
        forest = WeightForest(["a", "b", "c"])
        for number in NO_WEIGHTS:
            self.assertRefused("BadNumber", [number], forest.put, "p", "a", "b", number)
        self.compare(forest, ["a", "b", "c"], [])
        self.assertIs(forest.put("p", "a", "b", 999999), None)
        self.assertIs(forest.put("q", "b", "c", 0), None)
        self.assertExactly((forest.weights(), forest.weight_sum()), ({"p": 999999, "q": 0}, 999999))
        self.assertExactly(forest.heaviest("a", "c"), (999999, "p"))
        self.assertExactly(forest.put("r", "a", "c", 999998), "p")

    def test_the_most_lines(self):
        houses = many_houses(32)
        forest = WeightForest(houses)
        for at, row in enumerate(many_lines(96, houses)):
            forest.put(*row, at)
        self.assertExactly((len(forest), len(forest.kept()), len(forest.outs())), (96, 31, 65))
        before = state(forest)
        # The lines that are out count as well, and their names are in use.
        self.assertRefused("TooMany", [96], forest.put, "n", "h00", "h01", 0)
        self.assertRefused("Taken", ["l95"], forest.put, "l95", "h00", "h01", 0)
        self.assertRefused("SelfLine", ["n"], forest.put, "n", "h00", "h00", 0)
        self.assertExactly(state(forest), before)

    def test_what_is_returned_may_be_changed(self):
        forest = small_forest()
        before = state(forest)
        for found in [forest.houses, forest.lines, forest.kept(), forest.outs(), forest.ring_of("r"), forest.web().lines]:
            found.append("z")
            found[:1] = []
        forest.weights()["p"] = 99
        forest.weights().clear()
        self.assertExactly(state(forest), before)


class RunTest(ForestTest):
    def test_long_runs(self):
        source = random.Random(64)
        for count, most, weights in [(2, 12, [0, 1]), (3, 20, [5]), (5, 30, [0, 1, 2]), (8, 40, [7]), (9, 50, range(9)),
                                     (10, 96, [0, 1, 999999]), (6, 40, range(1000)), (32, 96, [3, 4])]:
            houses = many_houses(count)
            forest, put, kept = WeightForest(houses), [], []
            for row in random_lines(source, houses, most, list(weights)):
                gone = forest.put(*row)
                put.append(row)
                due = [line for line in kept + [row[0]] if line not in forest.kept()]
                self.assertExactly([] if gone is None else [gone], due)
                kept = forest.kept()
                if count < 32 or len(put) % 16 == 0:
                    self.compare(forest, houses, put)
                if count < 10 and len(put) % 8 == 0:
                    self.compare_ways(forest)

    def test_orders(self):
        source = random.Random(65)
        houses = many_houses(7)
        for _ in range(10):
            rows = random_lines(source, houses, 20, [1, 2])
            kept = None
            for _ in range(8):
                forest = WeightForest(source.sample(houses, 7))
                for line, a, b, weight in source.sample(rows, 20):
                    forest.put(line, *source.sample([a, b], 2), weight)
                self.assertExactly(forest.kept(), kept or forest.kept())
                kept = forest.kept()
                self.compare(forest, houses, rows)


class LightestTest(ForestTest):
    def setUp(self):
        # The ring p q r has r out by its name, the ring s t of two equal ends has s out by its weight.
        self.web = web_of("a b c d e", "p a b, q b c, r a c, s c d, t c d")
        self.weights = {"p": 2, "q": 4, "r": 4, "s": 8, "t": 1}

    def judge(self, names, due):
        self.assertIs(is_lightest(self.web, self.weights, names), due)

    def test_plain_lightest(self):
        self.assertExactly(plain_lightest(self.web, self.weights), ["p", "q", "t"])
        self.assertExactly(plain_lightest(self.web, {**self.weights, "p": 5}), ["q", "r", "t"])
        self.assertExactly(plain_lightest(web_of(""), {}), [])
        self.assertExactly(plain_lightest(web_of("a b"), {}), [])

    def test_weights_of_any_size(self):
        weights = {"p": -10 ** 30, "q": -1, "r": 10 ** 30, "s": -2, "t": 0}
        self.assertExactly(plain_lightest(self.web, weights), ["p", "q", "s"])
        self.assertIs(is_lightest(self.web, weights, ["p", "q", "s"]), True)
        self.assertIs(is_lightest(self.web, weights, ["p", "q", "t"]), False)

    def test_true(self):
        for names in [["p", "q", "t"], ["t", "q", "p"], ["q", "t", "p"]]:
            self.judge(names, True)
        self.assertIs(is_lightest(web_of(""), {}, []), True)
        self.assertIs(is_lightest(web_of("a b"), {}, []), True)

    def test_no_spanning_forest(self):
        self.judge(["p", "q"], False)
        self.judge(["q", "t"], False)
        self.judge([], False)
        self.judge(["p", "q", "r", "t"], False)
        self.judge(["p", "q", "s", "t"], False)
        self.judge(["p", "q", "t", "t"], False)
        self.judge(["p", "p", "t"], False)
        self.judge(["p", "q", "t", "n"], False)
        for word in [word for word in NO_NAMES if isinstance(word, str)] + ["n", "a", "p q"]:
            self.judge(["p", "q", "t", word], False)
            self.judge(["p", "q", word], False)

    def test_lighter_lines_left_out(self):
        self.judge(["p", "q", "s"], False)
        self.judge(["p", "r", "t"], False)
        self.judge(["q", "r", "t"], False)
        self.judge(["p", "r", "s"], False)
        # With equal weights the names tell.
        self.weights["t"] = 8
        self.judge(["p", "q", "s"], True)
        self.judge(["p", "q", "t"], False)

    def test_each_line_of_the_way_counts(self):
        web = web_of("a b c d", "p a b, q b c, r c d, s a d")
        for heavy in "pqr":
            weights = {**dict.fromkeys("pqrs", 5), heavy: 6}
            self.assertIs(is_lightest(web, weights, ["p", "q", "r"]), False)
            weights[heavy] = 5
            self.assertIs(is_lightest(web, weights, ["p", "q", "r"]), True)

    def test_all_sets_of_names(self):
        source = random.Random(66)
        for _ in range(12):
            houses = many_houses(source.randint(2, 5))
            rows = random_lines(source, houses, 7, [0, 1, 2])
            web, weights = Web(houses, [row[:3] for row in rows]), {row[0]: row[3] for row in rows}
            due = light_lines(houses, web.lines, weights)
            for bits in range(2 ** 7):
                names = [row[0] for at, row in enumerate(rows) if bits >> at & 1]
                self.assertIs(is_lightest(web, weights, names), sorted(names) == due)

    def test_what_is_passed_stays(self):
        names = ["t", "q", "p"]
        plain_lightest(self.web, self.weights)
        self.judge(names, True)
        self.assertExactly((names, self.weights), (["t", "q", "p"], {"p": 2, "q": 4, "r": 4, "s": 8, "t": 1}))
        plain_lightest(self.web, self.weights).append("z")
        self.assertExactly(plain_lightest(self.web, self.weights), ["p", "q", "t"])


if __name__ == "__main__":
    unittest.main()
