"""Points 20 to 22, and 5, 7 and 9 as far as they speak of plaincuts.py."""

import itertools
import random
import unittest

from keptjoined.plaincuts import (
    bridge_sides, crossing_lines, is_cut, is_forest, is_spanning, plain_bridges, spanning_lines)
from keptjoined.webs import Web
from tests.helpers import (
    NO_NAMES, KeptTest, full_web, joined_by_hand, many_houses, parts_by_hand, random_webs, web_of)


def subsets(items):
    for count in range(len(items) + 1):
        yield from itertools.combinations(items, count)


def is_forest_by_hand(web, names):
    """No line of the set joins two houses that the others join."""
    lines = [line for line in web.lines if line[0] in names]
    if len(lines) != len(names):
        return False
    return not any(joined_by_hand(web.houses, [other for other in lines if other != line], line[1], line[2])
                   for line in lines)


def bridges_by_hand(web):
    return [name for name, low, high in web.lines
            if not joined_by_hand(web.houses, [line for line in web.lines if line[0] != name], low, high)]


class CrossingTest(KeptTest):
    def setUp(self):
        self.web = web_of("a b c d", "s a b, p a b, q c b, r d a")

    def test_exactly_one_end_in_the_side(self):
        self.assertExactly(crossing_lines(self.web, ["a"]), ["p", "r", "s"])
        self.assertExactly(crossing_lines(self.web, ["a", "b"]), ["q", "r"])
        self.assertExactly(crossing_lines(self.web, ["b", "d"]), ["p", "q", "r", "s"])
        self.assertExactly(crossing_lines(self.web, ["c"]), ["q"])
        self.assertExactly(crossing_lines(self.web, []), [])
        self.assertExactly(crossing_lines(self.web, ["a", "b", "c", "d"]), [])

    def test_repeated_houses_count_once(self):
        self.assertExactly(crossing_lines(self.web, ["a", "a"]), ["p", "r", "s"])
        self.assertExactly(crossing_lines(self.web, ["b", "a", "b", "a", "a"]), ["q", "r"])
        self.assertExactly(crossing_lines(self.web, ["c"] * 200), ["q"])

    def test_any_order_and_tuples(self):
        for side in [["d", "b"], ("d", "b"), ("b", "d", "b")]:
            self.assertExactly(crossing_lines(self.web, side), ["p", "q", "r", "s"])
        self.assertExactly(crossing_lines(self.web, ()), [])
        self.assertExactly(crossing_lines(Web(), ()), [])

    def test_the_first_wrong_item_counts(self):
        for word in NO_NAMES:
            self.assertRefused("BadName", [word], crossing_lines, self.web, [word])
            self.assertRefused("BadName", [word], crossing_lines, self.web, ["a", word, "zz", "A"])
            self.assertRefused("BadName", [word], crossing_lines, self.web, ("a", "a", word))
            self.assertRefused("NoHouse", ["zz"], crossing_lines, self.web, ["a", "zz", word])
            self.assertRefused("NoHouse", ["zz"], crossing_lines, self.web, ("zz", word, "a"))
        self.assertRefused("NoHouse", ["yy"], crossing_lines, self.web, ["yy", "zz"])
        self.assertRefused("NoHouse", ["p"], crossing_lines, self.web, ["a", "p"])
        self.assertRefused("NoHouse", ["a"], crossing_lines, Web(), ["a"])

    def test_the_side_stays(self):
        side = ["b", "a", "b"]
        crossing_lines(self.web, side)
        self.assertEqual(side, ["b", "a", "b"])

    def test_small_webs(self):
        for web in random_webs(30, 6, 8):
            for side in subsets(web.houses):
                due = [name for name, low, high in web.lines if len({low, high} & set(side)) == 1]
                self.assertExactly(crossing_lines(web, list(side)), due)


class IsCutTest(KeptTest):
    def setUp(self):
        self.web = web_of("a b c d e f", "p a b, q b c, r d e")

    def judged(self, a, b, side, due):
        self.assertIs(is_cut(self.web, a, b, side), due, (a, b, side))

    def test_cuts(self):
        self.judged("a", "d", ["a", "b", "c"], True)
        self.judged("c", "e", ["a", "b", "c"], True)
        self.judged("d", "a", ["d", "e"], True)
        self.judged("f", "a", ["f"], True)
        self.judged("f", "a", ["d", "e", "f"], True)
        self.judged("a", "f", ["a", "b", "c", "d", "e"], True)

    def test_not_strictly_ascending(self):
        self.judged("a", "d", ["a", "c", "b"], False)
        self.judged("a", "d", ["b", "a", "c"], False)
        self.judged("a", "d", ["c", "b", "a"], False)
        self.judged("a", "d", ["a", "a", "b", "c"], False)
        self.judged("a", "d", ["a", "b", "c", "c"], False)
        self.judged("f", "a", ["f", "f"], False)

    def test_what_is_no_house(self):
        self.judged("a", "d", ["a", "b", "c", "g"], False)
        self.judged("a", "d", ["", "a", "b", "c"], False)
        self.judged("a", "d", ["a", "b", "bb", "c"], False)
        self.judged("a", "d", ["A", "a", "b", "c"], False)
        self.judged("a", "d", ["a", "b", "c", "p"], False)

    def test_a_and_b(self):
        side = ["a", "b", "c"]
        self.judged("d", "a", side, False)
        self.judged("d", "e", side, False)
        self.judged("a", "b", side, False)
        self.judged("d", "f", side, False)
        self.judged("a", "a", side, False)
        self.judged("d", "d", side, False)
        self.judged("a", "z", side, False)
        self.judged("a", "", side, False)
        self.judged("z", "d", side, False)
        self.judged("z", "z", side, False)
        self.judged("", "", [], False)
        self.judged("a", "d", [], False)
        self.judged("z", "d", ["a", "b", "c", "z"], False)

    def test_a_line_that_crosses(self):
        self.judged("a", "d", ["a", "b"], False)
        self.judged("a", "d", ["a"], False)
        self.judged("a", "f", ["a", "b", "c", "d"], False)
        self.judged("a", "f", ["a", "b", "c", "e"], False)
        self.judged("a", "c", ["a", "b"], False)

    def test_small_webs(self):
        for web in random_webs(20, 5, 6):
            for side in subsets(web.houses):
                crossed = any((low in side) != (high in side) for _, low, high in web.lines)
                for a in web.houses + ["z"]:
                    for b in web.houses + ["z"]:
                        due = a in side and b in web.houses and b not in side and not crossed
                        self.assertIs(is_cut(web, a, b, list(side)), due)
                        self.assertIs(is_cut(web, a, b, list(reversed(side))), due and len(side) == 1)


class ForestTest(KeptTest):
    def test_spanning_lines_takes_the_lines_in_ascending_order(self):
        self.assertExactly(spanning_lines(web_of("a b c", "r a b, q b c, p a c")), ["p", "q"])
        self.assertExactly(spanning_lines(web_of("a b", "q a b, p b a")), ["p"])
        self.assertExactly(spanning_lines(web_of("a b c d", "l9 a b, l10 c d, l1 b c, l2 a c")), ["l1", "l10", "l2"])
        self.assertExactly(spanning_lines(Web()), [])
        self.assertExactly(spanning_lines(web_of("a b")), [])
        self.assertExactly(spanning_lines(full_web()), ["l%02d" % at for at in range(31)])

    def test_spanning_lines_of_small_webs(self):
        for web in random_webs(60, 7, 10):
            due = []
            for name, low, high in web.lines:
                if not joined_by_hand(web.houses, [line for line in web.lines if line[0] in due], low, high):
                    due.append(name)
            self.assertExactly(spanning_lines(web), due)
            self.assertIs(is_forest(web, due), True)
            self.assertIs(is_spanning(web, due), True)

    def test_forests(self):
        web = web_of("a b c d e", "p a b, q b c, r c a, s a b, t d e")
        for names, forest, spanning in [
                (["p", "q", "t"], True, True), (["t", "q", "p"], True, True), (["q", "t", "s"], True, True),
                (["r", "p", "t"], True, True), (["p", "q"], True, False), (["t"], True, False), ([], True, False),
                (["p", "q", "r"], False, False), (["p", "q", "r", "t"], False, False), (["p", "s"], False, False),
                (["t", "s", "p"], False, False), (["p", "p"], False, False), (["t", "t"], False, False),
                (["p", "q", "t", "p"], False, False), (["p", "t", "q", "t"], False, False),
                (["p", "q", "t", "z"], False, False), (["z"], False, False), (["a"], False, False),
                (["p", "q", "t", ""], False, False), (["P"], False, False), (["p", "q", "t", "p "], False, False)]:
            self.assertIs(is_forest(web, names), forest, names)
            self.assertIs(is_spanning(web, names), spanning, names)

    def test_the_empty_list(self):
        for web in [Web(), web_of("a"), web_of("a b c")]:
            self.assertIs(is_forest(web, []), True)
            self.assertIs(is_spanning(web, []), True)
            self.assertIs(is_forest(web, ["a"]), False)
            self.assertIs(is_spanning(web, ["a"]), False)
        self.assertIs(is_forest(web_of("a b", "l a b"), []), True)
        self.assertIs(is_spanning(web_of("a b", "l a b"), []), False)

    def test_every_set_of_lines_in_any_order(self):
        source = random.Random(6)
        for web in random_webs(30, 6, 7):
            names = [line[0] for line in web.lines]
            for chosen in subsets(names):
                chosen = source.sample(chosen, len(chosen))
                lines = [line for line in web.lines if line[0] in chosen]
                forest = is_forest_by_hand(web, chosen)
                spans = parts_by_hand(web.houses, lines) == parts_by_hand(web.houses, web.lines)
                self.assertIs(is_forest(web, chosen), forest)
                self.assertIs(is_spanning(web, chosen), forest and spans)

    def test_the_list_judged_stays(self):
        names = ["q", "p"]
        is_forest(web_of("a b c", "p a b, q b c"), names)
        is_spanning(web_of("a b c", "p a b, q b c"), names)
        self.assertEqual(names, ["q", "p"])


class BridgesTest(KeptTest):
    def test_bridges_of_a_tree(self):
        web = web_of("a b c d", "q a b, p b c, r d b")
        self.assertExactly(plain_bridges(web), ["p", "q", "r"])
        self.assertExactly(bridge_sides(web, "p"), (["a", "b", "d"], ["c"]))
        self.assertExactly(bridge_sides(web, "q"), (["a"], ["b", "c", "d"]))
        self.assertExactly(bridge_sides(web, "r"), (["a", "b", "c"], ["d"]))

    def test_parallel_lines_are_no_bridges(self):
        web = web_of("a b c", "p a b, q b a, r b c")
        self.assertExactly(plain_bridges(web), ["r"])
        self.assertIs(bridge_sides(web, "p"), None)
        self.assertIs(bridge_sides(web, "q"), None)
        self.assertExactly(bridge_sides(web, "r"), (["a", "b"], ["c"]))

    def test_lines_of_a_ring_are_no_bridges(self):
        web = web_of("a b c d e", "p a b, q b c, r c a, s a d, t d e")
        self.assertExactly(plain_bridges(web), ["s", "t"])
        for line in ["p", "q", "r"]:
            self.assertIs(bridge_sides(web, line), None)
        self.assertExactly(bridge_sides(web, "s"), (["a", "b", "c"], ["d", "e"]))

    def test_other_parts_are_on_no_side(self):
        web = web_of("a b c d e", "p b d, q a e")
        self.assertExactly(bridge_sides(web, "p"), (["b"], ["d"]))
        self.assertExactly(bridge_sides(web, "q"), (["a"], ["e"]))

    def test_the_side_of_the_low_end_comes_first(self):
        # The low end of l is c, but the least house of all, a, is behind its high end.
        web = web_of("a c d", "k a d, l d c")
        self.assertExactly(bridge_sides(web, "l"), (["c"], ["a", "d"]))

    def test_no_lines(self):
        self.assertExactly(plain_bridges(Web()), [])
        self.assertExactly(plain_bridges(web_of("a b")), [])

    def test_errors(self):
        web = web_of("a b", "l a b")
        for word in NO_NAMES:
            self.assertRefused("BadName", [word], bridge_sides, web, word)
        for word in ["a", "m"]:
            self.assertRefused("NoLine", [word], bridge_sides, web, word)
            self.assertRefused("NoLine", [word], bridge_sides, Web(), word)

    def test_small_webs(self):
        for web in random_webs(60, 7, 9):
            bridges = bridges_by_hand(web)
            self.assertExactly(plain_bridges(web), bridges)
            for name, low, high in web.lines:
                parts = parts_by_hand(web.houses, [line for line in web.lines if line[0] != name])
                due = None
                if name in bridges:
                    due = ([part for part in parts if low in part][0], [part for part in parts if high in part][0])
                self.assertExactly(bridge_sides(web, name), due)

    def test_a_long_chain(self):
        houses = many_houses(32)
        web = Web(houses, [("l%02d" % at, houses[at], houses[at + 1]) for at in range(31)])
        self.assertExactly(plain_bridges(web), ["l%02d" % at for at in range(31)])
        self.assertExactly(bridge_sides(web, "l20"), (houses[:21], houses[21:]))
        self.assertExactly(plain_bridges(web.with_line("m", "h00", "h31")), [])

    def test_the_web_stays(self):
        web = web_of("a b c", "p a b, q b c")
        plain_bridges(web)
        bridge_sides(web, "p")[0].clear()
        bridge_sides(web, "p")[1].append("z")
        plain_bridges(web).clear()
        spanning_lines(web).clear()
        crossing_lines(web, ["a"]).clear()
        self.assertTrue(web == web_of("a b c", "p a b, q b c"))
        self.assertExactly(bridge_sides(web, "p"), (["a"], ["b", "c"]))
        self.assertExactly(plain_bridges(web), ["p", "q"])
        self.assertExactly(spanning_lines(web), ["p", "q"])
        self.assertExactly(crossing_lines(web, ["a"]), ["p"])


if __name__ == "__main__":
    unittest.main()
