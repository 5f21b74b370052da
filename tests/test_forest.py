"""Points 35 to 38, and 4 to 8 as far as they speak of forests."""

import copy
import random
import unittest

from keptjoined.errors import KeptError
from keptjoined.forest import Forest
from keptjoined.shapes import height_bound
from tests.helpers import NO_NAMES, Alike, KeptTest, Unlike, many_houses, parts_by_hand, rows_of, web_of, all_ways
from tests.references import HandTours, least_height

# Names of lines in the long runs; some are names of houses too.
NAMES = ["a", "p", "p1", "q", "r", "house", "arc", "z"]

# Calls that are refused in the small forest, each with its error: (method, arguments, code, word).
REFUSED = [
    ("link", ("N", "A", "B"), "BadName", "N"), ("link", ("n", "A", "B"), "BadName", "A"),
    ("link", ("n", "z", "B"), "BadName", "B"), ("link", ("p", "a", ""), "BadName", ""),
    ("link", ("n", "z", "y"), "NoHouse", "z"), ("link", ("n", "a", "z"), "NoHouse", "z"),
    ("link", ("p", "z", "z"), "NoHouse", "z"), ("link", ("n", "p", "a"), "NoHouse", "p"),
    ("link", ("n", "a", "a"), "SelfLine", "n"), ("link", ("p", "f", "f"), "SelfLine", "p"),
    ("link", ("p", "a", "b"), "Taken", "p"), ("link", ("p", "b", "a"), "Taken", "p"),
    ("link", ("p", "a", "c"), "Taken", "p"), ("link", ("p", "d", "f"), "Taken", "p"),
    ("link", ("r", "c", "b"), "Taken", "r"), ("link", ("n", "a", "b"), "SamePart", "n"),
    ("link", ("n", "c", "b"), "SamePart", "n"), ("link", ("a", "e", "d"), "SamePart", "a"),
    ("cut", ("P",), "BadName", "P"), ("cut", ("n",), "NoLine", "n"), ("cut", ("a",), "NoLine", "a"),
    ("mark_tie", ("P", True), "BadName", "P"), ("mark_tie", ("n", True), "NoLine", "n"),
    ("mark_tie", ("a", False), "NoLine", "a"), ("mark_spare", ("A", "N"), "BadName", "A"),
    ("mark_spare", ("z", "N"), "BadName", "N"), ("mark_spare", ("a", "N"), "BadName", "N"),
    ("mark_spare", ("A", None), "BadName", "A"), ("mark_spare", ("z", None), "NoHouse", "z"),
    ("mark_spare", ("p", "p"), "NoHouse", "p"), ("mark_spare", ("a", ""), "BadName", ""),
    ("same", ("A", "B"), "BadName", "A"), ("same", ("z", "B"), "BadName", "B"), ("same", ("y", "z"), "NoHouse", "y"),
    ("same", ("a", "z"), "NoHouse", "z"), ("same", ("z", "z"), "NoHouse", "z"), ("way", ("A", "B"), "BadName", "A"),
    ("way", ("z", "B"), "BadName", "B"), ("way", ("y", "z"), "NoHouse", "y"), ("way", ("a", "z"), "NoHouse", "z"),
    ("way", ("z", "z"), "NoHouse", "z"), ("piece_of", ("A",), "BadName", "A"), ("piece_of", ("p",), "NoHouse", "p"),
    ("size_of", ("A",), "BadName", "A"), ("size_of", ("p",), "NoHouse", "p"), ("least_tie", ("A",), "BadName", "A"),
    ("least_tie", ("p",), "NoHouse", "p"), ("least_spare", ("A",), "BadName", "A"),
    ("least_spare", ("p",), "NoHouse", "p"), ("tour_of", ("A",), "BadName", "A"), ("tour_of", ("p",), "NoHouse", "p"),
]


def forest_of(houses, lines=""):
    forest = Forest(houses.split())
    for line, a, b in rows_of(lines):
        forest.link(line, a, b)
    return forest


def small_forest():
    """Three pieces: b - a - c with the lines p and q, d - e with r, and f, with some marks."""
    forest = forest_of("a b c d e f", "p b a, q a c, r d e")
    forest.mark_tie("q", True)
    forest.mark_spare("b", "s2")
    forest.mark_spare("c", "s1")
    return forest


def state(forest):
    """All that can be seen of a forest."""
    return copy.deepcopy([forest.houses, forest.lines, forest.steps, len(forest), forest.pieces(), forest.heights()] + [
        (forest.piece_of(a), forest.size_of(a), forest.tour_of(a), forest.least_tie(a), forest.least_spare(a),
         [(forest.same(a, b), forest.way(a, b)) for b in forest.houses]) for a in forest.houses])


class ForestTest(KeptTest):
    def compare(self, forest, tours, lines, ties, spares):
        """Every question about the forest has the answer of the plain tours, lines and marks."""
        houses = sorted(house for tour in tours.tours for _, house in [key for key in tour if key[0] == "house"])
        self.assertExactly(forest.houses, houses)
        self.assertExactly(forest.lines, sorted(lines))
        self.assertExactly(len(forest), len(lines))
        for name in houses + NAMES:
            self.assertIs(name in forest, name in [line for line, _, _ in lines])
        self.assertExactly(forest.steps, tours.cuts + tours.splices)
        pieces = parts_by_hand(houses, lines)
        self.assertExactly(forest.pieces(), pieces)
        heights = forest.heights()
        self.assertExactly([height[:2] for height in heights], [(piece[0], 3 * len(piece) - 2) for piece in pieces])
        for _, seats, height in heights:
            self.assertIs(type(height), int)
            self.assertTrue(least_height(seats) <= height <= height_bound(seats))
        web = web_of(" ".join(houses), ", ".join(" ".join(line) for line in lines))
        for piece in pieces:
            marked = [line for line, low, _ in lines if low in piece and line in ties]
            spare = [spares[house] for house in piece if house in spares]
            for a in piece:
                self.assertExactly(forest.piece_of(a), piece)
                self.assertExactly(forest.size_of(a), len(piece))
                self.assertExactly(forest.tour_of(a), tours.of(a))
                self.assertExactly(forest.least_tie(a), min(marked, default=None))
                self.assertExactly(forest.least_spare(a), min(spare, default=None))
                for b in houses:
                    self.assertIs(forest.same(a, b), b in piece)
                    self.assertExactly(forest.way(a, b), all_ways(web, a, b)[0] if b in piece else None)


class NewTest(ForestTest):
    def test_no_houses(self):
        for forest in [Forest(), Forest([]), Forest(())]:
            self.assertExactly((forest.houses, forest.lines, forest.steps, len(forest), forest.pieces(), forest.heights()),
                               ([], [], 0, 0, [], []))
            self.assertRefused("NoHouse", ["a"], forest.piece_of, "a")

    def test_one_house(self):
        forest = Forest(["a"])
        self.compare(forest, HandTours(["a"]), [], [], {})
        self.assertExactly((forest.heights(), forest.tour_of("a")), ([("a", 1, 1)], [("house", "a")]))
        self.assertRefused("SelfLine", ["l"], forest.link, "l", "a", "a")

    def test_houses_in_any_order(self):
        for passed in [["c", "a", "b"], ("b", "c", "a")]:
            self.compare(Forest(passed), HandTours("abc"), [], [], {})

    def test_the_constructor(self):
        self.check_constructor(Forest)


class LinkTest(ForestTest):
    def test_the_example_of_the_document(self):
        forest = Forest(["a", "b", "c", "d"])
        self.assertExactly([forest.link("p", "a", "b"), forest.link("q", "b", "c"), forest.link("r", "a", "d"),
                            forest.cut("p")], [None] * 4)
        self.assertExactly((forest.steps, forest.pieces()), (18, [["a", "d"], ["b", "c"]]))
        self.assertExactly(forest.tour_of("b"), [("arc", "q", "b", "c"), ("house", "c"), ("arc", "q", "c", "b"), ("house", "b")])

    def test_the_order_of_the_ends(self):
        one, other = forest_of("a b", "p a b"), forest_of("a b", "p b a")
        for forest in (one, other):
            self.assertExactly(forest.lines, [("p", "a", "b")])
            self.assertExactly(forest.tour_of("b"), [("house", "a"), ("arc", "p", "a", "b"), ("house", "b"), ("arc", "p", "b", "a")])

    def test_each_refusal(self):
        forest = small_forest()
        before = state(forest)
        for method, given, code, word in REFUSED:
            self.assertRefused(code, [word], getattr(forest, method), *given)
            self.assertExactly(state(forest), before)

    def test_no_names(self):
        forest = small_forest()
        before = state(forest)
        for word in NO_NAMES:
            for call, given in [(forest.link, (word, "a", "f")), (forest.link, ("n", word, "f")), (forest.link, ("n", "a", word)),
                                (forest.cut, (word,)), (forest.mark_tie, (word, True)), (forest.mark_spare, (word, "n")),
                                (forest.same, (word, "a")), (forest.same, ("a", word)), (forest.way, (word, "a")),
                                (forest.way, ("a", word)), (forest.piece_of, (word,)), (forest.size_of, (word,)),
                                (forest.least_tie, (word,)), (forest.least_spare, (word,)), (forest.tour_of, (word,))]:
                self.assertRefused("BadName", [word], call, *given)
            if word is not None:
                self.assertRefused("BadName", [word], forest.mark_spare, "a", word)
        self.assertExactly(state(forest), before)

    def test_refused_before_anything_is_turned(self):
        # The seats of b, c and e stand inside their tours, so a link there turns them; a refused one does not.
        forest = small_forest()
        before = state(forest)
        self.assertRefused("Taken", ["r"], forest.link, "r", "b", "e")
        self.assertRefused("SamePart", ["n"], forest.link, "n", "b", "c")
        self.assertExactly(state(forest), before)
        self.assertExactly(forest.link("n", "b", "e"), None)
        self.assertExactly(forest.steps, before[2] + 7)

    def test_in(self):
        forest = small_forest()
        for line in "pqr":
            self.assertIs(line in forest, True)
        for word in NO_NAMES + ["a", "n", "p q", ("p",), ["p"], ("p", "a", "b"), Alike("p"), Unlike()]:
            self.assertIs(word in forest, False)
        forest.cut("q")
        self.assertIs("q" in forest, False)

    def test_what_is_returned_may_be_changed(self):
        forest = small_forest()
        before = state(forest)
        for found in [forest.houses, forest.lines, forest.pieces(), forest.pieces()[0], forest.piece_of("a"), forest.heights(),
                      forest.tour_of("a"), forest.way("b", "c"), forest.way("a", "a")]:
            found.append("z")
            found[:1] = []
        self.assertExactly(state(forest), before)

    def test_the_most_houses(self):
        houses = many_houses(32)
        forest, tours = Forest(houses), HandTours(houses)
        for at in range(31):
            forest.link("l%02d" % at, houses[at + 1], houses[at])
            tours.link("l%02d" % at, houses[at + 1], houses[at])
        self.assertExactly((len(forest), forest.steps), (31, tours.cuts + tours.splices))
        self.assertExactly(forest.heights()[0][:2], ("h00", 94))
        self.assertExactly(forest.tour_of("h31"), tours.of("h31"))
        self.assertExactly(forest.way("h31", "h00"), [("l%02d" % at, houses[at + 1], houses[at]) for at in reversed(range(31))])
        for at in range(0, 31, 2):
            forest.cut("l%02d" % at)
            tours.cut("l%02d" % at)
        self.assertExactly(forest.pieces(), [["h00"]] + [houses[at:at + 2] for at in range(1, 31, 2)] + [["h31"]])
        self.assertExactly([forest.tour_of(piece[0]) for piece in forest.pieces()], tours.in_order())


class MarkTest(ForestTest):
    def least(self, forest, house):
        return forest.least_tie(house), forest.least_spare(house)

    def test_tie_marks(self):
        forest = forest_of("a b c d", "p a b, q c b, r c d")
        self.assertExactly(self.least(forest, "a"), (None, None))
        self.assertIs(forest.mark_tie("r", True), None)
        for house in "abcd":
            self.assertExactly(self.least(forest, house), ("r", None))
        forest.mark_tie("q", True)
        forest.mark_tie("q", True)
        self.assertExactly(forest.least_tie("a"), "q")
        forest.mark_tie("p", False)
        self.assertExactly(forest.least_tie("a"), "q")
        self.assertIs(forest.mark_tie("q", False), None)
        forest.mark_tie("q", False)
        self.assertExactly(forest.least_tie("a"), "r")
        forest.mark_tie("p", True)
        forest.mark_tie("r", False)
        self.assertExactly(forest.least_tie("d"), "p")

    def test_a_tie_mark_is_borne_by_one_seat(self):
        # Cutting q leaves each mark in one piece alone: that of p in the first, that of r in the second.
        forest = forest_of("a b c d", "p a b, q c b, r c d")
        for line in "pqr":
            forest.mark_tie(line, True)
        forest.cut("q")
        self.assertExactly([forest.least_tie(house) for house in "abcd"], ["p", "p", "r", "r"])
        forest.mark_tie("p", False)
        self.assertExactly([forest.least_tie(house) for house in "abcd"], [None, None, "r", "r"])

    def test_a_new_line_under_an_old_name(self):
        forest = forest_of("a b c", "p a b")
        forest.mark_tie("p", True)
        forest.cut("p")
        forest.link("p", "a", "b")
        self.assertExactly(forest.least_tie("a"), None)
        forest.mark_tie("p", True)
        forest.cut("p")
        forest.link("p", "c", "b")
        self.assertExactly([forest.least_tie(house) for house in "abc"], [None, None, None])

    def test_spare_marks(self):
        forest = forest_of("a b c", "p a b")
        self.assertIs(forest.mark_spare("a", "x2"), None)
        self.assertExactly([forest.least_spare(house) for house in "abc"], ["x2", "x2", None])
        forest.mark_spare("b", "x10")
        self.assertExactly(forest.least_spare("a"), "x10")
        forest.mark_spare("b", "y")
        self.assertExactly(forest.least_spare("a"), "x2")
        forest.mark_spare("c", "a")
        self.assertExactly([forest.least_spare(house) for house in "abc"], ["x2", "x2", "a"])
        forest.link("q", "c", "b")
        self.assertExactly([forest.least_spare(house) for house in "abc"], ["a", "a", "a"])
        self.assertIs(forest.mark_spare("c", None), None)
        forest.mark_spare("c", None)
        self.assertExactly(forest.least_spare("c"), "x2")
        self.assertExactly(forest.least_tie("a"), None)

    def test_a_spare_mark_outlasts_a_line_of_its_name(self):
        forest = forest_of("a b", "p a b")
        forest.mark_spare("a", "p")
        forest.mark_spare("b", "p")
        forest.cut("p")
        self.assertExactly([forest.least_spare("a"), forest.least_spare("b")], ["p", "p"])
        forest.mark_spare("a", None)
        self.assertExactly([forest.least_spare("a"), forest.least_spare("b")], [None, "p"])

    def test_marks_do_not_turn_tours(self):
        forest = forest_of("a b c", "p a b, q b c")
        tour, steps = forest.tour_of("a"), forest.steps
        forest.mark_tie("p", True)
        forest.mark_spare("c", "s")
        self.assertExactly((forest.tour_of("a"), forest.steps), (tour, steps))

    def test_both_marks_stay(self):
        forest = forest_of("a b", "p a b")
        forest.mark_spare("a", "s")
        forest.mark_tie("p", True)
        forest.mark_spare("b", "t")
        self.assertExactly(self.least(forest, "b"), ("p", "s"))


class RunTest(ForestTest):
    def test_long_runs(self):
        for seed in range(10):
            source = random.Random(seed)
            houses = source.sample(["a", "b", "c1", "c", "d", "h9", "house", "arc"], source.randint(2, 8))
            forest, tours = Forest(houses), HandTours(sorted(houses))
            lines, ties, spares = [], [], {}
            for _ in range(80):
                kind = source.randrange(8)
                if kind < 4:
                    line, a, b = source.choice(NAMES), *source.sample(houses, 2)
                    taken = line in [row[0] for row in lines]
                    if taken or forest.same(a, b):
                        self.assertRefused("Taken" if taken else "SamePart", [line], forest.link, line, a, b)
                    else:
                        self.assertIs(forest.link(line, a, b), None)
                        tours.link(line, a, b)
                        lines.append((line, min(a, b), max(a, b)))
                elif kind == 4 and lines:
                    row = source.choice(lines)
                    self.assertIs(forest.cut(row[0]), None)
                    tours.cut(row[0])
                    lines.remove(row)
                    ties = [line for line in ties if line != row[0]]
                elif kind == 5 and lines:
                    line, marked = source.choice(lines)[0], source.choice([True, False])
                    self.assertIs(forest.mark_tie(line, marked), None)
                    ties = [other for other in ties if other != line] + [line] * marked
                elif kind > 5:
                    house, line = source.choice(houses), source.choice(NAMES + [None])
                    self.assertIs(forest.mark_spare(house, line), None)
                    spares.pop(house, None)
                    if line is not None:
                        spares[house] = line
                self.compare(forest, tours, lines, ties, spares)

    def test_equal_calls_give_equal_values(self):
        source = random.Random(7)
        one, other = Forest(list("hbcdefga")), Forest(list("hbcdefga"))
        for _ in range(200):
            deed = (source.choice("pqrstuv"), *source.sample("abcdefgh", 2))
            for forest in (one, other):
                try:
                    forest.link(*deed)
                except KeptError as error:
                    if error.code == "Taken":
                        forest.cut(deed[0])
            self.assertExactly(state(one), state(other))


if __name__ == "__main__":
    unittest.main()
