"""Points 39 to 49, and 4 to 8 as far as they speak of plainlevels.py and levels.py."""

import copy
import unittest

from keptjoined.errors import KeptError
from keptjoined.levels import Levels
from keptjoined.plainlevels import PlainLevels
from keptjoined.shapes import height_bound
from keptjoined.webs import Web
from tests.helpers import NO_NAMES, KeptTest, many_houses, many_lines, rows_of, all_ways
from tests.references import (
    NO_LEVELS, REFUSED, REFUSED_WITH_FORESTS, SMALL_LINES, HandLevels, do, least_height, merged_parts, random_deeds)

BOTH = [PlainLevels, Levels]
LETTERS = list("abcdefghijklmnop")
KEYS = ["cuts", "found", "joined", "parted", "puts", "rises", "splices", "takes"]


def levels_of(kind, houses, lines=""):
    levels = kind(houses.split())
    for line, a, b in rows_of(lines):
        levels.put(line, a, b)
    return levels


def small_levels(kind):
    """Five houses: q was taken, so that p and s rose and t became a tie."""
    levels = levels_of(kind, "a b c d e", SMALL_LINES)
    levels.take("q")
    return levels


def state(levels):
    """All that can be seen of levels of either kind."""
    found = [levels.houses, levels.lines, levels.top, levels.table()]
    found += [(levels.pieces(level), [levels.piece_of(level, house) for house in levels.houses])
              for level in range(levels.top + 1)]
    if isinstance(levels, Levels):
        found += [(levels.tours(level), levels.heights(level)) for level in range(levels.top + 1)]
        found += [levels.counts(), levels.web().houses, levels.web().lines]
        found += [levels.way(a, b) for a in levels.houses for b in levels.houses]
    return copy.deepcopy(found)


class LevelsTest(KeptTest):
    def compare(self, levels, hand):
        """The table, the pieces of each level, and the two facts of point 40."""
        self.assertExactly((levels.houses, levels.lines, levels.top), (hand.houses, hand.lines(), hand.top))
        table = levels.table()
        self.assertExactly(table, hand.table())
        ties = [row[:3] for row in table if row[4]]
        self.assertEqual(len(merged_parts(hand.houses, ties)), len(hand.houses) - len(ties))
        for level in range(levels.top + 1):
            pieces = levels.pieces(level)
            self.assertExactly(pieces, hand.pieces(level))
            for piece in pieces:
                self.assertLessEqual(len(piece), len(hand.houses) // 2 ** level)
        for line, low, high, level, tie in table:
            self.assertExactly(levels.level_of(line), level)
            self.assertLessEqual(level, max(0, levels.top - 1))
            self.assertIn(high, levels.piece_of(level, low))
            self.assertExactly(levels.piece_of(level, high), hand.piece_of(level, low))

    def compare_forests(self, levels, hand):
        """Tours, ways over ties, counts and heights against what the links and cuts of point 48 give."""
        self.assertExactly(levels.counts(), hand.counts())
        for level in range(levels.top + 1):
            self.assertExactly(levels.tours(level), hand.forests[level].in_order())
            pieces = hand.pieces(level)
            heights = levels.heights(level)
            self.assertExactly([one[:2] for one in heights], [(piece[0], 3 * len(piece) - 2) for piece in pieces])
            for _, seats, height in heights:
                self.assertIs(type(height), int)
                self.assertTrue(least_height(seats) <= height <= height_bound(seats))
        self.assertTrue(levels.web() == Web(hand.houses, hand.lines()))

    def compare_ways(self, levels, hand):
        web = Web(hand.houses, hand.ties(0))
        for a in hand.houses:
            for b in hand.houses:
                ways = all_ways(web, a, b)
                self.assertExactly(levels.way(a, b), ways[0] if ways else None)


class SmallTest(LevelsTest):
    def test_no_houses(self):
        for kind in BOTH:
            for levels in [kind(), kind([]), kind(())]:
                self.assertExactly((levels.houses, levels.lines, levels.top, levels.table(), levels.pieces(0)), ([], [], 0, [], []))
                self.assertRefused("BadNumber", [1], levels.pieces, 1)
                self.assertRefused("BadNumber", [1], levels.piece_of, 1, "a")
                self.assertRefused("NoHouse", ["a"], levels.piece_of, 0, "a")
                self.assertRefused("NoHouse", ["a"], levels.put, "p", "a", "b")
                self.assertRefused("NoLine", ["p"], levels.take, "p")
        levels = Levels()
        self.assertExactly((levels.tours(0), levels.heights(0)), ([], []))
        self.assertExactly(levels.counts(), dict.fromkeys(KEYS, 0))
        self.assertTrue(levels.web() == Web())

    def test_one_house(self):
        for kind in BOTH:
            levels = kind(["a"])
            self.assertExactly((levels.top, levels.pieces(0), levels.piece_of(0, "a")), (0, [["a"]], ["a"]))
            self.assertRefused("SelfLine", ["p"], levels.put, "p", "a", "a")
            self.assertRefused("BadNumber", [1], levels.pieces, 1)
        self.assertExactly((levels.tours(0), levels.heights(0), levels.way("a", "a")), ([[("house", "a")]], [("a", 1, 1)], []))

    def test_the_greatest_level(self):
        for count, top in [(0, 0), (1, 0), (2, 1), (3, 1), (4, 2), (7, 2), (8, 3), (15, 3), (16, 4), (31, 4), (32, 5)]:
            for kind in BOTH:
                houses = many_houses(count)
                levels = kind(houses)
                self.assertExactly(levels.top, top)
                self.assertExactly(levels.pieces(top), [[house] for house in houses])
                self.assertRefused("BadNumber", [top + 1], levels.pieces, top + 1)

    def test_the_constructor(self):
        for kind in BOTH:
            self.check_constructor(kind)

    def test_the_examples_of_the_document(self):
        for kind in BOTH:
            levels = levels_of(kind, "a b c d", "p a b, q b c, r c d")
            self.assertExactly(levels.take("q"), [("cut", 0), ("half", 0, "a", 2), ("raise", "p", 1), ("none", 0)])
            self.assertExactly(levels.table(), [("p", "a", "b", 1, True), ("r", "c", "d", 0, True)])
            levels = levels_of(kind, "a b c d", "p a b, q b c, r c d, s a b, t a d")
            self.assertExactly(levels.take("q"), [("cut", 0), ("half", 0, "a", 2), ("raise", "p", 1), ("raise", "s", 1),
                                                  ("found", "t", 0)])

    def test_the_example_of_levels(self):
        levels = levels_of(Levels, "a b c d", "p a b, q b c, r c d")
        levels.take("q")
        counts = levels.counts()
        self.assertExactly((counts["rises"], counts["parted"], counts["cuts"], counts["splices"]), (1, 1, 6, 15))
        self.assertExactly((levels.put("u", "b", "d"), levels.put("v", "a", "c")), ([("tie", 0)], [("spare", 0)]))
        self.assertExactly(levels.take("p"), [("cut", 1), ("half", 1, "a", 1), ("none", 1), ("half", 0, "a", 1), ("found", "v", 0)])
        self.assertExactly((levels.counts()["cuts"], levels.counts()["splices"]), (16, 25))

    def test_put(self):
        for kind in BOTH:
            levels = kind(["a", "b", "c"])
            self.assertExactly(levels.put("p", "b", "a"), [("tie", 0)])
            self.assertExactly(levels.put("q", "a", "b"), [("spare", 0)])
            self.assertExactly(levels.put("a", "c", "b"), [("tie", 0)])
            self.assertExactly(levels.put("b", "c", "a"), [("spare", 0)])
            self.assertExactly(levels.table(), [("a", "b", "c", 0, True), ("b", "a", "c", 0, False), ("p", "a", "b", 0, True),
                                                ("q", "a", "b", 0, False)])

    def test_take_of_a_spare(self):
        for kind in BOTH:
            levels = small_levels(kind)
            table = levels.table()
            self.assertExactly(table, [("p", "a", "b", 1, True), ("r", "c", "d", 0, True), ("s", "a", "b", 1, False),
                                       ("t", "a", "d", 0, True), ("u", "c", "d", 0, False)])
            self.assertExactly(levels.take("s"), [("spare", 1)])
            self.assertExactly(levels.take("u"), [("spare", 0)])
            self.assertExactly(levels.table(), [row for row in table if row[4]])

    def test_a_line_that_is_put_again_is_new(self):
        for kind in BOTH:
            levels = small_levels(kind)
            self.assertExactly(levels.level_of("p"), 1)
            levels.take("s")
            levels.take("p")
            self.assertExactly(levels.put("p", "a", "b"), [("tie", 0)])
            self.assertExactly(levels.level_of("p"), 0)
            self.assertExactly(levels.put("s", "a", "b"), [("spare", 0)])
            self.assertExactly(levels.piece_of(1, "a"), ["a"])

    def test_equally_large_halves(self):
        # S has the least house of both, whichever end of the line it holds.
        for kind in BOTH:
            levels = levels_of(kind, "a b c d", "p b d, q d c, r c a")
            self.assertExactly(levels.take("q")[1], ("half", 0, "a", 2))
            levels = levels_of(kind, "a b c d", "p a d, q b d, r b c")
            self.assertExactly(levels.take("q")[1], ("half", 0, "a", 2))
            levels = levels_of(kind, "a b c", "p a b, q b c")
            self.assertExactly(levels.take("q")[1], ("half", 0, "c", 1))

    def test_a_replacement_that_is_found_ends_the_visit(self):
        for kind in BOTH:
            levels = levels_of(kind, "a b c d e f", "m a b, n b c, k c d, v d e, w e f, z0 a c, z1 c d, z2 a b, z3 a d")
            # z0 rises, z1 is found; z2 and z3 are not looked at, so they stay.
            self.assertExactly(levels.take("k"), [("cut", 0), ("half", 0, "a", 3), ("raise", "m", 1), ("raise", "n", 1),
                                                  ("raise", "z0", 1), ("found", "z1", 0)])
            self.assertExactly([levels.level_of(line) for line in ["z1", "z2", "z3"]], [0, 0, 0])
            self.assertExactly(levels.take("z1"), [("cut", 0), ("half", 0, "a", 3), ("raise", "z2", 1), ("found", "z3", 0)])


class RefusedTest(LevelsTest):
    def test_each_refusal(self):
        for kind in BOTH:
            levels = small_levels(kind)
            before = state(levels)
            for method, given, code, value in REFUSED + (REFUSED_WITH_FORESTS if kind == Levels else []):
                self.assertRefused(code, [value], getattr(levels, method), *given)
                self.assertExactly(state(levels), before)

    def test_no_names(self):
        for kind in BOTH:
            levels = small_levels(kind)
            before = state(levels)
            for word in NO_NAMES:
                calls = [(levels.put, (word, "a", "e")), (levels.put, ("n", word, "e")), (levels.put, ("n", "a", word)),
                         (levels.take, (word,)), (levels.level_of, (word,)), (levels.piece_of, (1, word))]
                if kind == Levels:
                    calls += [(levels.way, (word, "a")), (levels.way, ("a", word))]
                for call, given in calls:
                    self.assertRefused("BadName", [word], call, *given)
            self.assertExactly(state(levels), before)

    def test_no_levels(self):
        for kind in BOTH:
            levels = small_levels(kind)
            for number in NO_LEVELS:
                for house in ["a", "A", "z", None]:
                    self.assertRefused("BadNumber", [number], levels.piece_of, number, house)
                for method in ["pieces"] + (["tours", "heights"] if kind == Levels else []):
                    self.assertRefused("BadNumber", [number], getattr(levels, method), number)

    def test_the_most_lines(self):
        houses = many_houses(32)
        lines = many_lines(96, houses)
        for kind in BOTH:
            levels = kind(houses)
            for row in lines:
                levels.put(*row)
            before = levels.table()
            self.assertRefused("TooMany", [96], levels.put, "n", "h00", "h01")
            self.assertRefused("Taken", ["l00"], levels.put, "l00", "h00", "h01")
            self.assertRefused("SelfLine", ["n"], levels.put, "n", "h00", "h00")
            self.assertRefused("NoHouse", ["z"], levels.put, "n", "h00", "z")
            self.assertExactly(levels.table(), before)
            levels.take("l95")
            self.assertExactly(levels.put("n", "h00", "h01"), [("spare", 0)])
            self.assertRefused("TooMany", [96], levels.put, "l95", "h00", "h01")

    def test_what_is_returned_may_be_changed(self):
        for kind in BOTH:
            levels = small_levels(kind)
            before = state(levels)
            found = [levels.houses, levels.lines, levels.table(), levels.pieces(0), levels.pieces(0)[0], levels.pieces(2)[0],
                     levels.piece_of(0, "a"), levels.piece_of(2, "a")]
            if kind == Levels:
                found += [levels.tours(0), levels.tours(0)[0], levels.tours(2)[0], levels.heights(1), levels.way("b", "d"),
                          levels.way("a", "a"), levels.web().lines]
                levels.counts().clear()
                levels.counts()["puts"] = 99
            for one in found:
                one.append("z")
                one[:1] = []
            self.assertExactly(state(levels), before)
            trace = levels.put("n", "e", "a")
            trace.append("z")
            self.assertExactly(levels.take("n"), [("cut", 0), ("half", 0, "e", 1), ("none", 0)])


class TwinTest(LevelsTest):
    def test_twin(self):
        levels = small_levels(PlainLevels)
        before = state(levels)
        twin = levels.twin()
        self.assertIs(type(twin), PlainLevels)
        self.assertExactly(state(twin), before)
        self.assertExactly(twin.take("t"), [("cut", 0), ("half", 0, "a", 2), ("none", 0)])
        twin.put("n", "e", "a")
        self.assertExactly(state(levels), before)
        other = state(twin)
        levels.take("u")
        levels.take("r")
        levels.put("n", "b", "c")
        self.assertExactly(state(twin), other)
        self.assertExactly(state(twin.twin()), other)

    def test_a_twin_goes_on_alike(self):
        deeds = random_deeds(3, LETTERS[:8], LETTERS, 200)
        levels, hand = PlainLevels(LETTERS[:8]), HandLevels(LETTERS[:8])
        for at, deed in enumerate(deeds):
            if at % 10 == 0:
                levels = levels.twin()
            self.assertExactly(do(levels, deed), do(hand, deed))
            self.compare(levels, hand)

    def test_no_houses(self):
        self.assertExactly(state(PlainLevels().twin()), state(PlainLevels()))


class RunTest(LevelsTest):
    def test_long_runs_on_few_houses(self):
        for seed in range(8):
            houses = LETTERS[:2 + seed]
            deeds = random_deeds(seed, houses, ["p%d" % at for at in range(14)] + ["a", "b"], 150)
            plain, levels, hand = PlainLevels(houses), Levels(houses), HandLevels(houses)
            for deed in deeds:
                due = do(hand, deed)
                self.assertExactly(do(plain, deed), due)
                self.assertExactly(do(levels, deed), due)
                self.compare(plain, hand)
                self.compare(levels, hand)
                self.compare_forests(levels, hand)
                self.compare_ways(levels, hand)

    def test_long_runs_on_more_houses(self):
        risen = 0
        for seed, count in [(20, 16), (21, 13), (22, 16), (23, 32)]:
            houses = many_houses(count)
            deeds = random_deeds(seed, houses, ["l%d" % at for at in range(2 * count)], 240)
            plain, levels, hand = PlainLevels(houses), Levels(houses), HandLevels(houses)
            for at, deed in enumerate(deeds):
                due = do(hand, deed)
                self.assertExactly(do(plain, deed), due)
                self.assertExactly(do(levels, deed), due)
                risen = max([risen] + [row[3] for row in levels.table()])
                if at % 7 == 0:
                    self.compare(plain, hand)
                    self.compare(levels, hand)
                    self.compare_forests(levels, hand)
            self.compare_ways(levels, hand)
        self.assertGreaterEqual(risen, 2)

    def test_many_lines_between_the_same_ends(self):
        names = ["l%d" % at for at in range(40)]
        for seed in range(4):
            houses = LETTERS[:4]
            plain, levels, hand = PlainLevels(houses), Levels(houses), HandLevels(houses)
            for line in names:
                deed = ("put", line, *[("a", "b"), ("b", "c"), ("c", "d"), ("d", "a")][(len(line) * seed + names.index(line)) % 4])
                for one in (plain, levels, hand):
                    do(one, deed)
            for at in range(40):
                deed = ("take", names[(at * (2 * seed + 3)) % 40] if seed != 1 else names[at])
                due = do(hand, deed)
                self.assertExactly(do(plain, deed), due)
                self.assertExactly(do(levels, deed), due)
                self.compare(plain, hand)
                self.compare(levels, hand)
                self.compare_forests(levels, hand)
            self.assertExactly((levels.table(), plain.table()), ([], []))

    def test_the_greatest_level_is_reached(self):
        # Taking the middle of a chain again and again lets what is left rise as far as a line can.
        for kind in BOTH:
            houses = many_houses(32)
            levels = kind(houses)
            for at in range(31):
                levels.put("l%02d" % at, houses[at], houses[at + 1])
            for line in ["l15", "l07", "l03", "l01"]:
                levels.take(line)
            self.assertExactly([levels.level_of(line) for line in ["l00", "l02", "l04", "l08", "l16"]], [4, 3, 2, 1, 0])
            self.assertExactly(levels.piece_of(4, "h00"), ["h00", "h01"])
            self.assertExactly(levels.piece_of(5, "h00"), ["h00"])
            self.assertExactly(levels.take("l00"), [("cut", 4)] + [
                entry for level in [4, 3, 2, 1, 0] for entry in [("half", level, "h00", 1), ("none", level)]])

    def test_refused_calls_count_nothing(self):
        levels = small_levels(Levels)
        counts = levels.counts()
        self.assertExactly(sorted(counts), KEYS)
        for given in [("p", "a", "b"), ("n", "a", "a"), ("N", "a", "b"), ("n", "a", "z")]:
            with self.assertRaises(KeptError):
                levels.put(*given)
        for line in ["n", "N", "q"]:
            with self.assertRaises(KeptError):
                levels.take(line)
        self.assertExactly(levels.counts(), counts)
        self.assertExactly((counts["puts"], counts["takes"], counts["rises"], counts["found"], counts["joined"], counts["parted"]),
                           (6, 1, 2, 1, 3, 0))

    def test_asking_changes_nothing(self):
        levels = small_levels(Levels)
        before = state(levels)
        for _ in range(3):
            self.assertExactly(state(levels), before)

    def test_the_way_over_ties(self):
        # v would be shorter, but is a spare.
        levels = levels_of(Levels, "a b c d", "p b a, q b c, r d c, v a d")
        self.assertExactly(levels.way("a", "d"), [("p", "a", "b"), ("q", "b", "c"), ("r", "c", "d")])
        self.assertExactly(levels.way("d", "b"), [("r", "d", "c"), ("q", "c", "b")])
        self.assertExactly(levels.way("c", "c"), [])
        levels.take("r")
        self.assertExactly(levels.way("c", "d"), [("q", "c", "b"), ("p", "b", "a"), ("v", "a", "d")])
        levels.take("v")
        self.assertIs(levels.way("c", "d"), None)


if __name__ == "__main__":
    unittest.main()
