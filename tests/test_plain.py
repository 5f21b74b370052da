"""Points 17 to 19, and 5, 7 and 9 as far as they speak of plain.py."""

import random
import unittest

from keptjoined.plain import distances, find_part, find_parts, is_way, search_joined, shortest_way
from keptjoined.webs import Web
from tests.helpers import (
    NO_NAMES, KeptTest, all_ways, full_web, joined_by_hand, many_houses, parts_by_hand, random_webs, web_of)

# Values that are neither None nor a name; the falsy ones are easily taken for None.
NO_WITHOUT = [word for word in NO_NAMES if word is not None]


class PartsTest(KeptTest):
    def test_no_houses(self):
        self.assertExactly(find_parts(Web()), [])

    def test_houses_without_lines(self):
        self.assertExactly(find_parts(web_of("c a b")), [["a"], ["b"], ["c"]])
        self.assertExactly(find_part(web_of("c a b"), "b"), ["b"])

    def test_several_parts(self):
        web = web_of("a b c d e f g", "p g a, q d f, r f b")
        self.assertExactly(find_parts(web), [["a", "g"], ["b", "d", "f"], ["c"], ["e"]])
        for part in find_parts(web):
            for house in part:
                self.assertExactly(find_part(web, house), part)

    def test_parallel_lines_and_rings(self):
        web = web_of("a b c d e", "p a b, q b a, r b c, s c a, t d e, u d e")
        self.assertExactly(find_parts(web), [["a", "b", "c"], ["d", "e"]])
        self.assertExactly(find_part(web, "a", without="p"), ["a", "b", "c"])
        self.assertExactly(find_part(web, "d", without="u"), ["d", "e"])

    def test_a_long_chain(self):
        houses = many_houses(32)
        lines = [("l%d" % at, houses[at], houses[at + 1]) for at in range(31)]
        web = Web(houses, lines)
        self.assertExactly(find_parts(web), [houses])
        self.assertExactly(find_part(web, "h31"), houses)
        self.assertExactly(find_part(web, "h31", without="l15"), houses[16:])
        self.assertExactly(find_part(web, "h00", without="l15"), houses[:16])
        self.assertExactly(distances(web, "h00"), list(zip(houses, range(32))))
        self.assertExactly(len(shortest_way(web, "h31", "h00")), 31)
        self.assertIs(search_joined(web, "h00", "h31"), True)
        self.assertIs(search_joined(web, "h00", "h31", without="l30"), False)

    def test_without_a_line(self):
        web = web_of("a b c", "p a b, q b c")
        self.assertExactly(find_part(web, "b", without=None), ["a", "b", "c"])
        self.assertExactly(find_part(web, "b", without="p"), ["b", "c"])
        self.assertExactly(find_part(web, "b", without="q"), ["a", "b"])
        self.assertExactly(find_part(web, "a", without="p"), ["a"])
        self.assertExactly(find_part(web, "b"), ["a", "b", "c"])

    def test_what_is_returned_may_be_changed(self):
        web = web_of("a b c", "p a b")
        find_parts(web).clear()
        find_parts(web)[0].append("z")
        find_part(web, "a").append("z")
        distances(web, "a").clear()
        shortest_way(web, "a", "b").clear()
        shortest_way(web, "a", "a").append("z")
        self.assertExactly(find_parts(web), [["a", "b"], ["c"]])
        self.assertExactly(find_part(web, "a"), ["a", "b"])
        self.assertExactly(distances(web, "a"), [("a", 0), ("b", 1)])
        self.assertExactly(shortest_way(web, "a", "b"), [("p", "a", "b")])
        self.assertExactly(shortest_way(web, "a", "a"), [])
        self.assertTrue(web == web_of("a b c", "p a b"))

    def test_small_webs_against_a_search_by_hand(self):
        for web in random_webs(80, 8, 10):
            parts = parts_by_hand(web.houses, web.lines)
            self.assertExactly(find_parts(web), parts)
            for without in [None] + [line for line, _, _ in web.lines]:
                lines = [line for line in web.lines if line[0] != without]
                parts = parts_by_hand(web.houses, lines)
                for part in parts:
                    for house in part:
                        self.assertExactly(find_part(web, house, without=without), part)
                for a in web.houses:
                    for b in web.houses:
                        self.assertIs(search_joined(web, a, b, without=without),
                                      joined_by_hand(web.houses, lines, a, b))


class WayTest(KeptTest):
    def test_the_fewest_steps(self):
        web = web_of("a b c d", "a1 a b, a2 b c, a3 c d, z a d")
        self.assertExactly(shortest_way(web, "a", "d"), [("z", "a", "d")])
        self.assertExactly(shortest_way(web, "d", "a"), [("z", "d", "a")])
        self.assertExactly(shortest_way(web, "a", "c"), [("a1", "a", "b"), ("a2", "b", "c")])
        self.assertExactly(shortest_way(web, "a", "d", without="z"),
                           [("a1", "a", "b"), ("a2", "b", "c"), ("a3", "c", "d")])
        self.assertExactly(shortest_way(web, "a", "d", without="a1"), [("z", "a", "d")])

    def test_the_least_lines_from_a_to_b(self):
        # From a the way over b begins with the lesser line, from d the way over c does.
        web = web_of("a b c d", "l1 a b, l4 b d, l2 a c, l3 c d")
        self.assertExactly(shortest_way(web, "a", "d"), [("l1", "a", "b"), ("l4", "b", "d")])
        self.assertExactly(shortest_way(web, "d", "a"), [("l3", "d", "c"), ("l2", "c", "a")])

    def test_the_houses_names_do_not_matter(self):
        web = web_of("a b c d", "m a b, m0 b d, l a c, z c d")
        self.assertExactly(shortest_way(web, "a", "d"), [("l", "a", "c"), ("z", "c", "d")])

    def test_parallel_lines(self):
        web = web_of("a b c", "q a b, p a b, p10 b c, p9 b c")
        self.assertExactly(shortest_way(web, "a", "c"), [("p", "a", "b"), ("p10", "b", "c")])
        self.assertExactly(shortest_way(web, "a", "c", without="p"), [("q", "a", "b"), ("p10", "b", "c")])
        self.assertExactly(shortest_way(web, "a", "c", without="p10"), [("p", "a", "b"), ("p9", "b", "c")])

    def test_a_house_and_itself(self):
        web = web_of("a b c", "p a b, q a b")
        for house in ["a", "b", "c"]:
            for without in [None, "p", "q"]:
                self.assertExactly(shortest_way(web, house, house, without=without), [])
                self.assertIs(search_joined(web, house, house, without=without), True)

    def test_no_way(self):
        web = web_of("a b c d", "p a b, q c d")
        self.assertIs(shortest_way(web, "a", "c"), None)
        self.assertIs(shortest_way(web, "a", "b", without="p"), None)
        self.assertExactly(shortest_way(web, "a", "b", without="q"), [("p", "a", "b")])

    def test_small_webs_against_all_ways(self):
        for web in random_webs(60, 6, 8):
            for without in [None] + [line for line, _, _ in web.lines]:
                for a in web.houses:
                    for b in web.houses:
                        ways = all_ways(web, a, b, without)
                        due = min(ways, key=lambda way: (len(way), [step[0] for step in way]), default=None)
                        self.assertExactly(shortest_way(web, a, b, without=without), due)

    def test_the_web_stays(self):
        web = web_of("a b c", "p a b, q b c")
        shortest_way(web, "a", "c", without="p")
        find_part(web, "a", without="p")
        self.assertTrue(web == web_of("a b c", "p a b, q b c"))


class DistancesTest(KeptTest):
    def test_the_part_alone_in_ascending_order(self):
        web = web_of("a b c d e f", "p c a, q a e, r e b, s c e, t d f")
        self.assertExactly(distances(web, "c"), [("a", 1), ("b", 2), ("c", 0), ("e", 1)])
        self.assertExactly(distances(web, "f"), [("d", 1), ("f", 0)])
        self.assertExactly(distances(web, "c", without="s"), [("a", 1), ("b", 3), ("c", 0), ("e", 2)])
        self.assertExactly(distances(web, "c", without="r"), [("a", 1), ("c", 0), ("e", 1)])
        self.assertExactly(distances(web, "d", without="t"), [("d", 0)])
        self.assertExactly(distances(web_of("a"), "a"), [("a", 0)])

    def test_small_webs_against_all_ways(self):
        for web in random_webs(50, 6, 8):
            for without in [None] + [line for line, _, _ in web.lines]:
                for a in web.houses:
                    due = []
                    for b in web.houses:
                        ways = all_ways(web, a, b, without)
                        if ways:
                            due.append((b, min(len(way) for way in ways)))
                    self.assertExactly(distances(web, a, without=without), due)


class RefusedTest(KeptTest):
    def test_one_house(self):
        for web in [web_of("a b", "p a b"), Web()]:
            for call in [find_part, distances]:
                for word in NO_NAMES:
                    self.assertRefused("BadName", [word], call, web, word)
                    self.assertRefused("BadName", [word], call, web, word, without="P")
                    self.assertRefused("BadName", [word], call, web, word, without="nn")
                for word in NO_WITHOUT:
                    self.assertRefused("BadName", [word], call, web, "a", without=word)
                    self.assertRefused("BadName", [word], call, web, "zz", without=word)
                self.assertRefused("NoHouse", ["zz"], call, web, "zz")
                self.assertRefused("NoHouse", ["p"], call, web, "p", without="p")
                self.assertRefused("NoHouse", ["zz"], call, web, "zz", without="nn")
        for call in [find_part, distances]:
            self.assertRefused("NoLine", ["nn"], call, web_of("a b", "p a b"), "a", without="nn")
            self.assertRefused("NoLine", ["a"], call, web_of("a b", "p a b"), "a", without="a")

    def test_two_houses(self):
        web = web_of("a b c", "p a b")
        for call in [search_joined, shortest_way]:
            for word in NO_NAMES:
                self.assertRefused("BadName", [word], call, web, word, "B", without="P")
                self.assertRefused("BadName", [word], call, web, word, "a")
                self.assertRefused("BadName", [word], call, web, "a", word)
                self.assertRefused("BadName", [word], call, web, "zz", word, without="P")
                self.assertRefused("BadName", [word], call, web, word, word)
            for word in NO_WITHOUT:
                for a, b in [("a", "b"), ("a", "a"), ("zz", "a"), ("a", "zz"), ("zz", "zz")]:
                    self.assertRefused("BadName", [word], call, web, a, b, without=word)
            for without in [None, "p", "nn"]:
                self.assertRefused("NoHouse", ["zz"], call, web, "zz", "yy", without=without)
                self.assertRefused("NoHouse", ["yy"], call, web, "yy", "zz", without=without)
                self.assertRefused("NoHouse", ["yy"], call, web, "a", "yy", without=without)
                self.assertRefused("NoHouse", ["yy"], call, web, "yy", "a", without=without)
                self.assertRefused("NoHouse", ["zz"], call, web, "zz", "zz", without=without)
            for a, b in [("a", "b"), ("a", "a"), ("a", "c"), ("c", "c")]:
                self.assertRefused("NoLine", ["nn"], call, web, a, b, without="nn")
                self.assertRefused("NoLine", ["a"], call, web, a, b, without="a")


class IsWayTest(KeptTest):
    def setUp(self):
        self.web = web_of("a b c d e", "p a b, q c b, r c d, s a d, t a b, u d e")

    def judged(self, a, b, way, due):
        self.assertIs(is_way(self.web, a, b, way), due, (a, b, way))

    def test_ways(self):
        self.judged("a", "b", [("p", "a", "b")], True)
        self.judged("a", "b", [("t", "a", "b")], True)
        self.judged("b", "a", [("p", "b", "a")], True)
        self.judged("a", "d", [("p", "a", "b"), ("q", "b", "c"), ("r", "c", "d")], True)
        self.judged("a", "d", [("s", "a", "d")], True)
        self.judged("b", "d", [("t", "b", "a"), ("s", "a", "d")], True)
        self.judged("a", "e", [("p", "a", "b"), ("q", "b", "c"), ("r", "c", "d"), ("u", "d", "e")], True)

    def test_the_empty_list(self):
        self.judged("a", "a", [], True)
        self.judged("a", "b", [], False)
        self.judged("z", "z", [], False)
        self.judged("", "", [], False)
        self.judged("a", "z", [], False)
        self.judged("z", "a", [], False)
        self.assertIs(is_way(Web(), "a", "a", []), False)

    def test_a_line_that_does_not_stand(self):
        self.judged("a", "b", [("z", "a", "b")], False)
        self.judged("a", "b", [("", "a", "b")], False)
        self.judged("a", "b", [("P", "a", "b")], False)
        self.judged("a", "b", [("a", "a", "b")], False)
        self.judged("a", "c", [("p", "a", "b"), ("z", "b", "c")], False)

    def test_a_line_with_other_ends(self):
        self.judged("a", "c", [("p", "a", "c")], False)
        self.judged("c", "b", [("p", "c", "b")], False)
        self.judged("a", "b", [("q", "a", "b")], False)
        self.judged("a", "z", [("p", "a", "z")], False)
        self.judged("z", "b", [("p", "z", "b")], False)
        self.judged("a", "d", [("p", "a", "b"), ("q", "b", "d")], False)

    def test_a_wrong_direction(self):
        self.judged("a", "b", [("p", "b", "a")], False)
        self.judged("a", "c", [("p", "b", "a"), ("q", "b", "c")], False)
        self.judged("a", "c", [("p", "a", "b"), ("q", "c", "b")], False)
        self.judged("a", "c", [("p", "b", "a"), ("q", "c", "b")], False)

    def test_a_step_that_does_not_start_where_the_one_before_stops(self):
        self.judged("a", "d", [("p", "a", "b"), ("r", "c", "d")], False)
        self.judged("a", "b", [("s", "a", "d"), ("p", "a", "b")], False)
        self.judged("a", "c", [("q", "b", "c"), ("p", "a", "b")], False)

    def test_a_house_met_twice(self):
        self.judged("a", "a", [("p", "a", "b"), ("t", "b", "a")], False)
        self.judged("a", "a", [("p", "a", "b"), ("p", "b", "a")], False)
        self.judged("a", "d", [("p", "a", "b"), ("t", "b", "a"), ("s", "a", "d")], False)
        self.judged("a", "a", [("p", "a", "b"), ("q", "b", "c"), ("r", "c", "d"), ("s", "d", "a")], False)
        self.judged("b", "c", [("p", "b", "a"), ("t", "a", "b"), ("q", "b", "c")], False)
        self.judged("e", "d", [("u", "e", "d"), ("u", "d", "e"), ("u", "e", "d")], False)

    def test_a_step_from_a_house_to_itself(self):
        self.judged("a", "a", [("p", "a", "a")], False)
        self.judged("a", "b", [("p", "a", "a"), ("p", "a", "b")], False)

    def test_the_first_or_the_last_house_wrong(self):
        way = [("p", "a", "b"), ("q", "b", "c")]
        self.judged("a", "c", way, True)
        for a, b in [("b", "c"), ("d", "c"), ("e", "c"), ("a", "b"), ("a", "d"), ("a", "a"), ("c", "c"), ("c", "a"),
                     ("z", "c"), ("a", "z"), ("z", "z"), ("", "c"), ("a", ""), ("A", "c")]:
            self.judged(a, b, way, False)

    def test_every_list_of_steps_up_to_a_length(self):
        source = random.Random(3)
        for web in random_webs(25, 5, 6):
            houses = web.houses + ["z"]
            for a in houses:
                for b in houses:
                    ways = all_ways(web, a, b) if a in web.houses and b in web.houses else []
                    for way in ways:
                        self.assertIs(is_way(web, a, b, way), True)
                        self.assertIs(is_way(web, b, a, way), a == b)
                        broken = [list(step) for step in way]
                        if broken:
                            at = source.randrange(len(broken))
                            broken[at][source.randrange(3)] = source.choice(houses + [line[0] for line in web.lines])
                        steps = [tuple(step) for step in broken]
                        self.assertIs(is_way(web, a, b, steps), steps in ways)
                        self.assertIs(is_way(web, a, b, way + way), (way + way) in ways)
                        self.assertIs(is_way(web, a, b, way[1:]), way[1:] in ways)
                        self.assertIs(is_way(web, a, b, way[:-1]), way[:-1] in ways)
                        self.assertIs(is_way(web, a, b, way[::-1]), way[::-1] in ways)
                    self.assertIs(is_way(web, a, b, []), a == b and a in web.houses)

    def test_the_list_judged_stays(self):
        way = [("p", "a", "b"), ("q", "b", "c")]
        self.judged("a", "c", way, True)
        self.assertExactly(way, [("p", "a", "b"), ("q", "b", "c")])

    def test_the_shortest_way_is_one(self):
        web = full_web()
        for b in web.houses:
            self.assertIs(is_way(web, "h00", b, shortest_way(web, "h00", b)), True)


if __name__ == "__main__":
    unittest.main()
