"""Points 92 to 95, and 4 to 8 as far as they speak of combining.py."""

import random
import unittest

from keptjoined.bridges import find_bridges
from keptjoined.combining import let_in, renamed, side_by_side, weave
from keptjoined.journals import Journal
from keptjoined.plain import find_parts
from keptjoined.webs import Web
from tests.helpers import NO_NAMES, KeptTest, full_web, many_houses, many_lines, random_webs, web_of
from tests.references import random_deeds

NO_STRINGS_OR_NAMES = [word for word in NO_NAMES if isinstance(word, str)]

# What is no turn.
NO_TURNS = [0, 3, -1, 10 ** 20, True, False, 1.0, 2.0, None, "1", "", b"1", [], [1], (1,), {}, object()]


def other_names(web, sign):
    """The web with a sign behind each of its names."""
    return Web([house + sign for house in web.houses], [(line + sign, low + sign, high + sign) for line, low, high in web.lines])


def wide_web(houses, lines, sign):
    """A web with so many houses and lines, with names that begin with the sign."""
    names = ["%s%02d" % (sign, at) for at in range(houses)]
    return Web(names, [("%sl%02d" % (sign, at), names[0], names[1]) for at in range(lines)])


class CombiningTest(KeptTest):
    def same(self, web, houses, lines):
        self.assertIs(type(web), Web)
        self.assertExactly((web.houses, web.lines), (sorted(houses), sorted(lines)))


class SideTest(CombiningTest):
    def test_both(self):
        first, second = web_of("a c", "p a c"), web_of("b d", "a b d, q d b")
        self.same(side_by_side(first, second), "abcd", [("p", "a", "c"), ("a", "b", "d"), ("q", "b", "d")])
        self.assertTrue(side_by_side(first, second) == side_by_side(second, first))
        self.assertTrue(side_by_side(first, Web()) == first)
        self.assertTrue(side_by_side(Web(), first) == first)
        self.same(side_by_side(Web(), Web()), [], [])
        # The webs stay.
        self.same(first, "ac", [("p", "a", "c")])
        self.same(second, "bd", [("a", "b", "d"), ("q", "b", "d")])

    def test_random_webs(self):
        for web in random_webs(30, 8, 10):
            other = other_names(web, "2")
            found = side_by_side(web, other)
            self.same(found, web.houses + other.houses, web.lines + other.lines)
            self.assertEqual(find_parts(found), sorted(find_parts(web) + find_parts(other)))

    def test_taken(self):
        first = web_of("a c e g", "k a c, m a c, q a c")
        for second, word in [(web_of("b c d e", "k b c"), "c"), (web_of("g", ""), "g"), (web_of("g e"), "e"),
                             (web_of("b d", "m b d"), "m"), (web_of("b d", "q b d, k b d"), "k"), (first, "a"),
                             (web_of("a10 b d", "k9 b d, q b d"), "q")]:
            self.assertRefused("Taken", [word], side_by_side, first, second)
            self.assertRefused("Taken", [word], side_by_side, second, first)
        # A house and a line may have one name.
        self.assertEqual(len(side_by_side(first, web_of("k m", "a k m"))), 4)

    def test_bounds(self):
        self.assertEqual(len(side_by_side(wide_web(16, 48, "a"), wide_web(16, 48, "b"))), 96)
        self.assertRefused("TooMany", [32], side_by_side, wide_web(16, 0, "a"), wide_web(17, 0, "b"))
        self.assertRefused("TooMany", [96], side_by_side, wide_web(16, 48, "a"), wide_web(16, 49, "b"))
        self.assertRefused("TooMany", [32], side_by_side, wide_web(17, 90, "a"), wide_web(16, 90, "b"))
        # A name that both have comes first.
        self.assertRefused("Taken", ["h00"], side_by_side, full_web(), full_web())
        self.assertRefused("Taken", ["al00"], side_by_side, Web(["x", "y"], [("al00", "x", "y")]), wide_web(32, 96, "a"))
        self.assertTrue(side_by_side(full_web(), Web()) == full_web())


class RenamedTest(CombiningTest):
    def setUp(self):
        self.web = web_of("a b c", "p a b, q b c, r c a")

    def test_no_change(self):
        for named in [{}, dict(houses=None), dict(lines=None), dict(houses=None, lines=None), dict(houses={}), dict(lines={}),
                      dict(houses={}, lines={}), dict(houses={"a": "a"}, lines={"p": "p", "q": "q"})]:
            self.assertTrue(renamed(self.web, **named) == self.web)
        self.assertTrue(renamed(Web(), houses={}, lines={}) == Web())

    def test_houses_and_lines(self):
        self.same(renamed(self.web, houses={"b": "z", "a": "p"}), "czp", [("p", "p", "z"), ("q", "c", "z"), ("r", "c", "p")])
        self.same(renamed(self.web, lines={"q": "a"}), "abc", [("p", "a", "b"), ("a", "b", "c"), ("r", "a", "c")])
        self.same(renamed(self.web, houses={"c": "a0"}, lines={"r": "r2", "p": "o"}), ["a", "b", "a0"],
                  [("o", "a", "b"), ("q", "a0", "b"), ("r2", "a", "a0")])
        self.same(self.web, "abc", [("p", "a", "b"), ("q", "b", "c"), ("r", "a", "c")])

    def test_names_exchanged_and_chains(self):
        self.same(renamed(self.web, houses={"a": "c", "c": "a"}), "abc", [("p", "b", "c"), ("q", "a", "b"), ("r", "a", "c")])
        self.same(renamed(self.web, lines={"p": "q", "q": "p"}), "abc", [("q", "a", "b"), ("p", "b", "c"), ("r", "a", "c")])
        self.same(renamed(self.web, houses={"a": "b", "b": "c", "c": "d"}), "bcd",
                  [("p", "b", "c"), ("q", "c", "d"), ("r", "b", "d")])
        self.same(renamed(self.web, lines={"p": "q", "q": "r", "r": "p"}), "abc",
                  [("q", "a", "b"), ("r", "b", "c"), ("p", "a", "c")])

    def test_there_and_back(self):
        source = random.Random(93)
        for web in random_webs(30, 8, 10):
            houses = dict(zip(web.houses, source.sample(web.houses + ["y%d" % at for at in range(8)], len(web.houses))))
            names = [row[0] for row in web.lines]
            lines = dict(zip(names, source.sample(names + ["z%d" % at for at in range(8)], len(names))))
            found = renamed(web, houses=houses, lines=lines)
            self.same(found, houses.values(), [(lines[line], *sorted([houses[low], houses[high]])) for line, low, high in web.lines])
            back = renamed(found, houses={new: old for old, new in houses.items()}, lines={new: old for old, new in lines.items()})
            self.assertTrue(back == web)

    def test_each_refusal(self):
        for houses, lines, code, word in [
                ({"d": "e"}, None, "NoHouse", "d"), ({"p": "e"}, None, "NoHouse", "p"), ({"d": "E"}, None, "NoHouse", "d"),
                ({"a": "E"}, None, "BadName", "E"), ({"b": "c"}, None, "Taken", "c"), ({"a": "z", "b": "z"}, None, "Taken", "z"),
                (None, {"s": "e"}, "NoLine", "s"), (None, {"a": "e"}, "NoLine", "a"), (None, {"s": "E"}, "NoLine", "s"),
                (None, {"q": "E"}, "BadName", "E"), (None, {"q": "r"}, "Taken", "r"), (None, {"q": "z", "r": "z"}, "Taken", "z"),
                (None, {"p": "q", "q": "r"}, "Taken", "r"), ({"a": "b", "b": "c"}, None, "Taken", "c")]:
            self.assertRefused(code, [word], renamed, self.web, houses=houses, lines=lines)

    def test_the_order_of_the_errors(self):
        for houses, lines, code, word in [
                # The keys in ascending order, each with its new name before the next key.
                ({"b": "B", "a": "A"}, {"p": "P"}, "BadName", "A"), ({"z": "x", "b": "B"}, {}, "BadName", "B"),
                ({"aa": "x", "b": "B"}, {}, "NoHouse", "aa"), ({"b": "x", "d": "A", "a0": "B"}, {}, "NoHouse", "a0"),
                # All keys come before the names that would be shared, and of these the least.
                ({"a": "c", "c": "C"}, {}, "BadName", "C"), ({"a": "c", "z": "y"}, {}, "NoHouse", "z"),
                ({"a": "x", "b": "x", "c": "x"}, {}, "Taken", "x"), ({"b": "a"}, {"z": "y"}, "Taken", "a"),
                # All of the houses comes before the lines.
                ({"a": "b"}, {"P": "Q"}, "Taken", "b"), ({"A": "b"}, {"P": "Q"}, "NoHouse", "A"),
                ({"a": "x"}, {"r": "R", "q": "Q"}, "BadName", "Q"), ({"a": "x"}, {"r": "R", "a": "y"}, "NoLine", "a"),
                ({"a": "x"}, {"p": "P", "z": "x"}, "BadName", "P"), ({"a": "x"}, {"p": "z", "q": "Q", "r": "z"}, "BadName", "Q"),
                ({"a": "x"}, {"q": "Q", "qq": "Q"}, "BadName", "Q"), ({"a": "x"}, {"q": "r", "r": "R"}, "BadName", "R"), ({"a": "x"}, {"q": "r", "z": "z"}, "NoLine", "z"),
                ({"a": "x"}, {"p": "s", "q": "s", "r": "s"}, "Taken", "s")]:
            self.assertRefused(code, [word], renamed, self.web, houses=houses, lines=lines)
            if houses and lines == {}:
                turned = dict(reversed(list(houses.items())))
                self.assertRefused(code, [word], renamed, self.web, houses=turned, lines=None)

    def test_the_least_name_that_is_shared(self):
        web = web_of("a b c d", "p a b, q a b, r a b, s a b")
        self.assertRefused("Taken", ["m"], renamed, web, houses={"a": "n", "b": "n", "c": "m", "d": "m"})
        self.assertRefused("Taken", ["m"], renamed, web, lines={"p": "n", "q": "n", "r": "m", "s": "m"})
        self.assertRefused("Taken", ["b"], renamed, web, houses={"a": "b", "d": "c"})

    def test_keys_and_names_that_are_no_names(self):
        for word in NO_STRINGS_OR_NAMES:
            self.assertRefused("NoHouse", [word], renamed, self.web, houses={word: "x"})
            self.assertRefused("NoHouse", [word], renamed, self.web, houses={word: word})
            self.assertRefused("NoLine", [word], renamed, self.web, lines={word: "x"})
            self.assertRefused("BadName", [word], renamed, self.web, houses={"b": word})
            self.assertRefused("BadName", [word], renamed, self.web, lines={"q": word})

    def test_what_is_passed_stays(self):
        houses, lines = {"a": "x", "b": "a"}, {"p": "q", "q": "p"}
        found = renamed(self.web, houses=houses, lines=lines)
        self.assertExactly((houses, lines), ({"a": "x", "b": "a"}, {"p": "q", "q": "p"}))
        houses.clear()
        lines["p"] = "x"
        self.same(found, "xac", [("q", "a", "x"), ("p", "a", "c"), ("r", "c", "x")])

    def test_the_bounds(self):
        web = full_web()
        found = renamed(web, houses={house: house + "x" for house in web.houses}, lines={row[0]: row[0] + "x" for row in web.lines})
        self.assertTrue(found == other_names(web, "x"))


class LetInTest(CombiningTest):
    def setUp(self):
        self.outer = web_of("a b c", "p a b, q c b, r a c, s b a")
        self.inner = web_of("x y z", "t x y")

    def test_let_in(self):
        self.same(let_in(self.outer, "b", self.inner, "y"), "acxyz",
                  [("p", "a", "y"), ("q", "c", "y"), ("r", "a", "c"), ("s", "a", "y"), ("t", "x", "y")])
        self.same(let_in(self.outer, "a", self.inner, "z"), "bcxyz",
                  [("p", "b", "z"), ("q", "b", "c"), ("r", "c", "z"), ("s", "b", "z"), ("t", "x", "y")])
        self.same(let_in(web_of("a"), "a", web_of("b"), "b"), "b", [])
        # A line may be named like a house, and the webs stay.
        self.same(let_in(web_of("m n", "x m n"), "m", self.inner, "x"), "nxyz", [("x", "n", "x"), ("t", "x", "y")])
        self.same(self.outer, "abc", [("p", "a", "b"), ("q", "b", "c"), ("r", "a", "c"), ("s", "a", "b")])
        self.same(self.inner, "xyz", [("t", "x", "y")])

    def test_an_inner_house_named_like_the_one_removed(self):
        inner = web_of("b y", "t b y")
        self.same(let_in(self.outer, "b", inner, "b"), "abcy",
                  [("p", "a", "b"), ("q", "b", "c"), ("r", "a", "c"), ("s", "a", "b"), ("t", "b", "y")])
        self.same(let_in(self.outer, "b", inner, "y"), "abcy",
                  [("p", "a", "y"), ("q", "c", "y"), ("r", "a", "c"), ("s", "a", "y"), ("t", "b", "y")])
        self.same(let_in(self.outer, "b", web_of("b"), "b"), "abc", self.outer.lines)

    def test_parts_and_bridges(self):
        source = random.Random(94)
        webs = [web for web in random_webs(60, 7, 8) if web.houses]
        for outer in webs:
            inner = other_names(source.choice(webs), "2")
            house, door = source.choice(outer.houses), source.choice(inner.houses)
            found = let_in(outer, house, inner, door)
            self.assertEqual(len(find_parts(found)), len(find_parts(outer)) + len(find_parts(inner)) - 1)
            self.assertEqual(find_bridges(found), sorted(find_bridges(outer) + find_bridges(inner)))
            ends = {line: sorted(door if end == house else end for end in pair) for line, *pair in outer.lines}
            self.same(found, [one for one in outer.houses if one != house] + inner.houses,
                      [(line, *ends[line]) for line in ends] + inner.lines)

    def test_each_refusal_in_its_order(self):
        for house, inner, door, code, word in [
                ("A", self.inner, "X", "BadName", "A"), ("m", self.inner, "X", "BadName", "X"),
                ("m", self.inner, "n", "NoHouse", "m"), ("x", self.inner, "x", "NoHouse", "x"),
                ("p", self.inner, "x", "NoHouse", "p"), ("a", self.inner, "n", "NoHouse", "n"),
                ("a", self.inner, "a", "NoHouse", "a"), ("a", web_of("c b", "p c b"), "m", "NoHouse", "m"),
                ("a", web_of("c b x", "p c b"), "x", "Taken", "b"), ("b", web_of("c b x", "p c b"), "x", "Taken", "c"),
                ("a", web_of("a x", "s a x, q a x"), "x", "Taken", "q"), ("b", web_of("b", ""), "b", None, None)]:
            if code is None:
                self.assertEqual(let_in(self.outer, house, inner, door).houses, ["a", "b", "c"])
            else:
                self.assertRefused(code, [word], let_in, self.outer, house, inner, door)
        for word in NO_NAMES:
            self.assertRefused("BadName", [word], let_in, self.outer, word, self.inner, word)
            self.assertRefused("BadName", [word], let_in, self.outer, "m", self.inner, word)
        self.assertRefused("NoHouse", ["a"], let_in, Web(), "a", self.inner, "x")
        self.assertRefused("NoHouse", ["x"], let_in, self.outer, "a", Web(), "x")

    def test_bounds(self):
        self.assertEqual(len(let_in(wide_web(16, 48, "a"), "a00", wide_web(17, 48, "b"), "b00").houses), 32)
        self.assertRefused("TooMany", [32], let_in, wide_web(17, 0, "a"), "a00", wide_web(17, 0, "b"), "b00")
        self.assertRefused("TooMany", [32], let_in, wide_web(32, 96, "a"), "a00", wide_web(2, 90, "b"), "b00")
        self.assertRefused("TooMany", [96], let_in, wide_web(16, 48, "a"), "a05", wide_web(17, 49, "b"), "b00")
        # A name that both have comes first.
        self.assertRefused("Taken", ["h01"], let_in, full_web(), "h00", full_web(), "h00")
        self.assertRefused("Taken", ["al00"], let_in, wide_web(32, 96, "a"), "a00",
                           Web(["x", "y"], [("al00", "x", "y")]), "x")
        self.assertEqual(len(let_in(full_web(), "h00", web_of("h00"), "h00")), 96)


class WeaveTest(CombiningTest):
    def setUp(self):
        self.first = Journal(["a", "b"], [("put", "p", "a", "b"), ("put", "q", "a", "b"), ("take", "p")])
        self.second = Journal(["c", "d"], [("put", "r", "c", "d"), ("take", "r")])

    def check(self, turns, order):
        """The deeds of both in the order that is told by ones and twos."""
        rows = {1: self.first.deeds[::-1], 2: self.second.deeds[::-1]}
        due = [rows[int(one)].pop() for one in order]
        for given in [list(turns), tuple(turns)]:
            found = weave(self.first, self.second, given)
            self.assertIs(type(found), Journal)
            self.assertExactly((found.houses, found.deeds), (["a", "b", "c", "d"], due))

    def test_turns(self):
        self.check([], "11122")
        self.assertTrue(weave(self.first, self.second) == weave(self.first, self.second, []))
        self.assertTrue(weave(self.first, self.second, turns=[2]) == weave(self.first, self.second, (2,)))
        self.check([1], "11122")
        self.check([2], "21112")
        self.check([1, 2, 1, 2, 1], "12121")
        self.check([2, 2], "22111")
        self.check([1, 1, 1, 2, 2], "11122")

    def test_skipped_turns(self):
        self.check([2, 2, 2, 2, 1, 2, 1], "22111")
        self.check([1, 1, 1, 1, 1, 2, 1], "11122")
        self.check([2, 2, 2], "22111")
        self.check([1] * 300 + [2] * 300, "11122")

    def test_empty_journals(self):
        for turns in [[], [1, 2, 1], [2, 2, 1]]:
            self.assertTrue(weave(self.first, Journal(), turns) == self.first)
            self.assertTrue(weave(Journal(), self.first, turns) == self.first)
            self.assertTrue(weave(Journal(["x"]), Journal(["y"]), turns) == Journal(["x", "y"]))

    def test_random_journals(self):
        source = random.Random(95)
        for seed in range(20):
            houses = many_houses(2 + seed % 5)
            others = [house + "x" for house in houses]
            first = Journal(houses, random_deeds(seed, houses, ["p1", "p2", "p3"], source.randrange(15)))
            second = Journal(others, random_deeds(seed + 1, others, ["q1", "q2", "q3"], source.randrange(15)))
            turns = source.choices([1, 2], k=source.randrange(30))
            found = weave(first, second, turns)
            self.assertTrue(found.web_at() == side_by_side(first.web_at(), second.web_at()))
            self.assertExactly([deed for deed in found if deed[1][0] == "p"], first.deeds)
            self.assertExactly([deed for deed in found if deed[1][0] == "q"], second.deeds)
            ahead = [first.deeds, second.deeds]
            due = [ahead[turn - 1].pop(0) for turn in turns if ahead[turn - 1]]
            self.assertExactly(found.deeds, due + ahead[0] + ahead[1])

    def test_no_turns(self):
        for number in NO_TURNS:
            for turns in [[number], [number, 5], [1, number], [2, 2, 2, 2, number, 1], (1, 2, number), [1] * 9 + [number]]:
                self.assertRefused("BadNumber", [number], weave, self.first, self.second, turns)
            # It comes before all other errors.
            self.assertRefused("BadNumber", [number], weave, self.first, self.first, [1, number])

    def test_taken(self):
        for second, word in [
                (Journal(["c", "b", "a"]), "a"), (Journal(["b", "x"], [("put", "p", "b", "x")]), "b"),
                (Journal(["c", "d"], [("put", "q", "c", "d"), ("put", "p", "c", "d")]), "p"),
                (Journal(["c", "d"], [("put", "q", "c", "d"), ("take", "q")]), "q"),
                (Journal(["c", "d"], [("put", "r", "c", "d"), ("take", "r"), ("put", "p", "c", "d")]), "p")]:
            # p is named in the first journal, though it does not stand at its end.
            self.assertRefused("Taken", [word], weave, self.first, second, [1, 2])
            self.assertRefused("Taken", [word], weave, second, self.first)

    def test_bounds(self):
        houses, others = many_houses(16), ["x%02d" % at for at in range(17)]
        self.assertRefused("TooMany", [32], weave, Journal(houses), Journal(others), [1, 2])
        first = Journal(houses, [("put", *row) for row in many_lines(48, houses)])
        rows = [("k" + line, "x" + low[1:], "x" + high[1:]) for line, low, high in many_lines(49, houses)]
        second = Journal(others[:16], [("put", *row) for row in rows])
        self.assertEqual(len(weave(first, second.prefix(48), [2] * 30).web_at()), 96)
        self.assertRefused("TooMany", [96], weave, first, second, [2] * 30)
        long = [("put", "p", "a", "b"), ("take", "p")] * 60
        many = [("put", "r", "c", "d"), ("take", "r")] * 60
        found = weave(Journal(["a", "b"], long), Journal(["c", "d"], many), [1, 2] * 120)
        self.assertEqual((len(found), len(found.web_at())), (240, 0))
        self.assertRefused("TooMany", [240], weave, Journal(["a", "b"], long + [("put", "p", "a", "b")]),
                           Journal(["c", "d"], many), [1, 2])
        # The first deed that cannot be done tells which bound it is.
        again = [("take", rows[0][0]), ("put", *rows[0])] * 80
        for count, bound in [(48, 240), (49, 96)]:
            longer = Journal(others[:16], [("put", *row) for row in rows[:count]] + again)
            self.assertRefused("TooMany", [bound], weave, first, longer, [1] * 48)

    def test_what_is_passed_stays(self):
        turns = [2, 1, 2]
        deeds = self.first.deeds, self.second.deeds
        weave(self.first, self.second, turns)
        self.assertExactly((turns, (self.first.deeds, self.second.deeds)), ([2, 1, 2], deeds))


if __name__ == "__main__":
    unittest.main()
