"""Points 58 to 63, and 5, 7 and 9 as far as they speak of bridges.py."""

import random
import unittest

from keptjoined.bridges import (
    blocks, bridge_certificate, find_bridges, is_bridge_certificate, is_joins, is_two_ways, least_joins, shrunk,
    store_bridges, two_ways)
from keptjoined.plain import shortest_way
from keptjoined.plaincuts import plain_bridges
from keptjoined.store import Store
from keptjoined.webs import Web
from tests.helpers import (
    NO_NAMES, KeptTest, all_ways, full_web, joined_by_hand, many_houses, parts_by_hand, random_webs, web_of)
from tests.references import do, random_deeds

# Two rings, a - b - c and e - f - g, with the bridges m (c - d), n (d - e), o (h - a), and i apart from j - k (two lines).
WEB = web_of("a b c d e f g h i j k", "p a b, q b c, r c a, m c d, n e d, s e f, t f g, u g e, o h a, v j k, w k j")
NO_WORDS = ["", "Cut", "cuts", "way", "parts", "RING", "rings", "bridges", "ways ", "c"]


def bridges_by_hand(web):
    return [line for line, low, high in web.lines
            if not joined_by_hand(web.houses, [row for row in web.lines if row[0] != line], low, high)]


def crossing(web, side):
    return [line for line, low, high in web.lines if (low in side) != (high in side)]


def ladder():
    """A web at the bound of houses: a row of rings of four, each joined to the next by one line."""
    houses = many_houses(32)
    lines = []
    for at in range(0, 32, 4):
        ring = houses[at:at + 4]
        lines += [("r%02d" % (at + k), ring[k], ring[(k + 1) % 4]) for k in range(4)]
        lines += [("b%02d" % at, ring[2], houses[at + 4])] if at < 28 else []
    return Web(houses, lines)


class FindTest(KeptTest):
    def test_small_webs(self):
        self.assertExactly(find_bridges(Web()), [])
        self.assertExactly(find_bridges(web_of("a b c")), [])
        self.assertExactly(find_bridges(web_of("a b c", "q a b, p b c")), ["p", "q"])
        self.assertExactly(find_bridges(WEB), ["m", "n", "o"])
        self.assertExactly(find_bridges(web_of("a b c", "p a b, q b c, r c a")), [])
        self.assertExactly(find_bridges(web_of("a b", "p a b")), ["p"])

    def test_lines_between_the_same_ends(self):
        self.assertExactly(find_bridges(web_of("a b c", "p a b, q b a, r b c")), ["r"])
        self.assertExactly(find_bridges(web_of("a b", "p a b, q b a")), [])
        self.assertExactly(find_bridges(web_of("a b c", "r b c, q a b, p b a, s a b")), ["r"])

    def test_large_webs(self):
        self.assertExactly(find_bridges(ladder()), ["b%02d" % at for at in range(0, 28, 4)])
        web = full_web()
        self.assertExactly(find_bridges(web), plain_bridges(web))
        houses = many_houses(32)
        chain = Web(houses, [("l%02d" % at, houses[at], houses[at + 1]) for at in range(31)])
        self.assertExactly(find_bridges(chain), ["l%02d" % at for at in range(31)])
        self.assertExactly(find_bridges(chain.with_line("n", "h31", "h00")), [])

    def test_random_webs(self):
        for web in random_webs(250, 9, 12):
            self.assertExactly(find_bridges(web), bridges_by_hand(web))
            self.assertExactly(find_bridges(web), plain_bridges(web))

    def test_stores(self):
        class LaterStore(Store):
            """A store of a subclass."""

        for seed in range(24):
            houses = list("abcdefgh")[:2 + seed % 7]
            store = (Store if seed % 3 else LaterStore)(houses)
            for at, deed in enumerate(random_deeds(seed, houses, ["p", "q", "r", "s", "t", "a", "b", "l1", "l0"], 60)):
                do(store, deed)
                if at % 3 == 0:
                    found = store_bridges(store)
                    self.assertExactly(found, bridges_by_hand(store.web()))
                    found.append("z")
        self.assertExactly(store_bridges(Store()), [])
        self.assertExactly(store_bridges(Store(["a"])), [])


class BlocksTest(KeptTest):
    def test_small_webs(self):
        self.assertExactly(blocks(WEB), [["a", "b", "c"], ["d"], ["e", "f", "g"], ["h"], ["i"], ["j", "k"]])
        self.assertExactly(shrunk(WEB).houses, ["a", "d", "e", "h", "i", "j"])
        # Between the blocks the ends are put in ascending order anew.
        self.assertExactly(shrunk(WEB).lines, [("m", "a", "d"), ("n", "d", "e"), ("o", "a", "h")])
        self.assertExactly(shrunk(web_of("a b c d", "p b d, q d b, r d c, s c a, t a c")).lines, [("r", "a", "b")])
        self.assertExactly((blocks(Web()), shrunk(Web()) == Web()), ([], True))
        self.assertExactly(blocks(web_of("b a")), [["a"], ["b"]])

    def test_webs(self):
        for web in random_webs(150, 9, 12) + [WEB, ladder(), full_web()]:
            bridges = plain_bridges(web)
            due = parts_by_hand(web.houses, [row for row in web.lines if row[0] not in bridges])
            found = blocks(web)
            self.assertExactly(found, due)
            self.assertEqual(len(found), len(parts_by_hand(web.houses, web.lines)) + len(bridges))
            block = {house: part[0] for part in due for house in part}
            small = shrunk(web)
            self.assertIs(type(small), Web)
            self.assertExactly(small.houses, [part[0] for part in due])
            self.assertExactly(small.lines, sorted((line, *sorted([block[low], block[high]])) for line, low, high in web.lines
                                                   if line in bridges))
            self.assertExactly(plain_bridges(small), bridges)
            found[0:1] = []


class BridgeCertificateTest(KeptTest):
    def test_small_webs(self):
        self.assertExactly(bridge_certificate(WEB, "m"), ("cut", ["a", "b", "c", "h"]))
        self.assertExactly(bridge_certificate(WEB, "n"), ("cut", ["a", "b", "c", "d", "h"]))
        self.assertExactly(bridge_certificate(WEB, "o"), ("cut", ["a", "b", "c", "d", "e", "f", "g"]))
        self.assertExactly(bridge_certificate(WEB, "p"), ("ring", [("r", "a", "c"), ("q", "c", "b")]))
        self.assertExactly(bridge_certificate(WEB, "w"), ("ring", [("v", "j", "k")]))

    def test_webs(self):
        for web in random_webs(80, 7, 10) + [WEB, ladder()]:
            bridges = bridges_by_hand(web)
            for line, low, high in web.lines:
                rest = [row for row in web.lines if row[0] != line]
                if line in bridges:
                    due = ("cut", [house for house in web.houses if joined_by_hand(web.houses, rest, low, house)])
                else:
                    due = ("ring", shortest_way(web, low, high, without=line))
                got = bridge_certificate(web, line)
                self.assertExactly(got, due)
                self.assertIs(is_bridge_certificate(web, line, got), True)
                for other, _, _ in web.lines:
                    if other != line:
                        self.assertIs(is_bridge_certificate(web, other, got), self.fits(web, other, got))
                got[1].clear()
                self.assertExactly(bridge_certificate(web, line), due)

    def fits(self, web, line, certificate):
        """Whether a certificate of another line is right for this one."""
        word, items = certificate
        if word == "cut":
            return crossing(web, items) == [line]
        low, high = web.ends(line)
        return items in all_ways(web, low, high, line)

    def test_errors(self):
        for word in NO_NAMES:
            self.assertRefused("BadName", [word], bridge_certificate, WEB, word)
        for word in ["a", "x", "cut"]:
            self.assertRefused("NoLine", [word], bridge_certificate, WEB, word)
        self.assertRefused("NoLine", ["a"], bridge_certificate, Web(), "a")


class BridgeJudgeTest(KeptTest):
    def judged(self, line, certificate, due):
        self.assertIs(is_bridge_certificate(WEB, line, certificate), due, certificate)

    def test_cuts(self):
        # Either end may be in the side, and further parts.
        self.judged("m", ("cut", ["a", "b", "c", "h"]), True)
        self.judged("m", ("cut", ["d", "e", "f", "g"]), True)
        self.judged("m", ("cut", ["a", "b", "c", "h", "i"]), True)
        self.judged("m", ("cut", ["d", "e", "f", "g", "i", "j", "k"]), True)
        self.judged("o", ("cut", ["h"]), True)
        self.judged("m", ("cut", ["a", "b", "c", "h", "j"]), False)
        self.judged("m", ("cut", ["a", "b", "c"]), False)
        self.judged("m", ("cut", ["h"]), False)
        self.judged("m", ("cut", []), False)
        self.judged("i", ("cut", ["i"]), False)
        self.judged("p", ("cut", ["a", "h"]), False)
        self.judged("v", ("cut", ["j"]), False)

    def test_the_order_of_the_houses(self):
        self.judged("m", ("cut", ["a", "c", "b", "h"]), False)
        self.judged("m", ("cut", ["a", "b", "c", "h", "h"]), False)
        self.judged("m", ("cut", ["h", "a", "b", "c"]), False)
        self.judged("o", ("cut", ["h", "h"]), False)

    def test_houses_that_do_not_stand(self):
        for house in ["z", "", "H", "m"]:
            self.judged("o", ("cut", sorted(["h", house])), False)

    def test_rings(self):
        self.judged("p", ("ring", [("r", "a", "c"), ("q", "c", "b")]), True)
        self.judged("v", ("ring", [("w", "j", "k")]), True)
        self.judged("p", ("ring", [("q", "b", "c"), ("r", "c", "a")]), False)
        self.judged("v", ("ring", [("w", "k", "j")]), False)
        self.judged("p", ("ring", [("p", "a", "b")]), False)
        self.judged("v", ("ring", [("v", "j", "k")]), False)
        self.judged("p", ("ring", [("r", "a", "c")]), False)
        self.judged("p", ("ring", []), False)
        self.judged("m", ("ring", [("m", "c", "d")]), False)
        self.judged("p", ("ring", [("r", "a", "c"), ("x", "c", "b")]), False)
        self.judged("p", ("ring", [("r", "a", "c"), ("q", "c", "b"), ("p", "b", "a"), ("p", "a", "b")]), False)

    def test_a_longer_way(self):
        web = web_of("a b c d", "p a d, q a b, r b d, s a c, t c b")
        self.assertIs(is_bridge_certificate(web, "p", ("ring", [("s", "a", "c"), ("t", "c", "b"), ("r", "b", "d")])), True)
        self.assertIs(is_bridge_certificate(web, "q", ("ring", [("p", "a", "d"), ("r", "d", "b")])), True)

    def test_a_line_that_does_not_stand(self):
        for line in ["x", "", "A", "a", "h"]:
            self.judged(line, ("cut", ["h"]), False)
            self.judged(line, ("cut", ["i"]), False)
            self.judged(line, ("cut", []), False)
            self.judged(line, ("ring", []), False)
            self.judged(line, ("ring", [("p", "a", "b")]), False)

    def test_another_string(self):
        for word in NO_WORDS + ["bridge"]:
            self.judged("o", (word, ["h"]), False)
            self.judged("v", (word, [("w", "j", "k")]), False)
            self.judged("v", (word, []), False)

    def test_items_of_the_other_kind(self):
        self.judged("v", ("cut", [("w", "j", "k")]), False)
        self.judged("o", ("ring", ["h"]), False)
        self.judged("o", ("cut", ["h", ("p", "a", "b")]), False)
        self.judged("o", ("cut", [("p", "a", "b"), "h"]), False)
        self.judged("v", ("ring", ["wjk"]), False)
        self.judged("p", ("ring", [("r", "a", "c"), "qcb"]), False)
        self.judged("p", ("ring", ["a", ("r", "a", "c"), ("q", "c", "b")]), False)


class TwoWaysTest(KeptTest):
    def judge(self, web, a, b, got):
        """Point 61, kind by kind."""
        if got[0] == "cut":
            _, side = got
            return side == sorted(set(side) & set(web.houses)) and a in side and b not in side and crossing(web, side) == []
        if got[0] == "bridge":
            _, line, side = got
            return (joined_by_hand(web.houses, web.lines, a, b) and side == sorted(set(side) & set(web.houses))
                    and a in side and b not in side and crossing(web, side) == [line])
        _, first, second = got
        ways = all_ways(web, a, b)
        return first in ways and second in ways and not {step[0] for step in first} & {step[0] for step in second}

    def kind(self, web, a, b):
        """The kind of answer that is possible, by taking each line away."""
        if not joined_by_hand(web.houses, web.lines, a, b):
            return "cut"
        parted = [line for line, _, _ in web.lines
                  if not joined_by_hand(web.houses, [row for row in web.lines if row[0] != line], a, b)]
        return "bridge" if parted else "ways"

    def check(self, web):
        for a in web.houses:
            for b in web.houses:
                got = two_ways(web, a, b)
                self.assertIs(type(got), tuple)
                self.assertExactly(got[0], self.kind(web, a, b))
                self.assertEqual(len(got), 2 if got[0] == "cut" else 3)
                self.assertTrue(self.judge(web, a, b, got), got)
                self.assertIs(is_two_ways(web, a, b, got), True)
                if a == b:
                    self.assertExactly(got, ("ways", [], []))
                if got[0] == "ways":
                    self.assertTrue(all(type(step) is tuple for way in got[1:] for step in way))

    def test_small_webs(self):
        self.check(WEB)
        self.check(Web())
        self.check(web_of("a"))
        self.check(web_of("a b c"))
        self.check(web_of("a b", "p a b"))
        self.check(web_of("a b", "p a b, q a b, r a b"))

    def test_the_first_way_is_in_the_way(self):
        # The shortest way from a to d goes along lines of both pairs of ways, so it must be given up.
        web = web_of("a b c d e f", "a1 a b, a2 b c, a3 c d, b1 a e, b2 e c, c1 b f, c2 f d")
        self.check(web)
        got = two_ways(web, "a", "d")
        self.assertExactly(sorted(len(way) for way in got[1:]), [3, 3])
        self.assertNotIn("a2", [step[0] for way in got[1:] for step in way])

    def test_ways_that_meet_in_a_house(self):
        # Both ways go through c; no line is in both, and no way meets a house twice.
        self.check(web_of("a b c d e", "p a b, q b c, r a c, s c d, t d e, u c e"))
        self.check(web_of("a b c", "p a b, q b a, r b c, s c b"))

    def test_random_webs(self):
        for web in random_webs(150, 7, 12):
            self.check(web)

    def test_denser_webs(self):
        source = random.Random(61)
        for _ in range(25):
            houses = list("abcdefgh")
            self.check(Web(houses, [("l%02d" % at, *source.sample(houses, 2)) for at in range(source.randint(9, 15))]))

    def test_a_large_web(self):
        web = ladder()
        for a, b in [("h00", "h31"), ("h00", "h02"), ("h31", "h28"), ("h05", "h06"), ("h03", "h04")]:
            self.assertIs(is_two_ways(web, a, b, two_ways(web, a, b)), True)
        web = full_web()
        for a, b in [("h00", "h31"), ("h31", "h00"), ("h07", "h08")]:
            got = two_ways(web, a, b)
            self.assertExactly(got[0], "ways")
            self.assertIs(is_two_ways(web, a, b, got), True)

    def test_errors(self):
        for word in NO_NAMES:
            self.assertRefused("BadName", [word], two_ways, WEB, word, "z")
            self.assertRefused("BadName", [word], two_ways, WEB, "z", word)
        self.assertRefused("BadName", ["A"], two_ways, WEB, "A", "B")
        self.assertRefused("NoHouse", ["y"], two_ways, WEB, "y", "z")
        self.assertRefused("NoHouse", ["z"], two_ways, WEB, "a", "z")
        self.assertRefused("NoHouse", ["z"], two_ways, WEB, "z", "z")
        self.assertRefused("NoHouse", ["p"], two_ways, WEB, "a", "p")


class TwoWaysJudgeTest(KeptTest):
    def judged(self, a, b, certificate, due):
        self.assertIs(is_two_ways(WEB, a, b, certificate), due, certificate)

    def test_ways(self):
        straight, around = [("p", "a", "b")], [("r", "a", "c"), ("q", "c", "b")]
        self.judged("a", "b", ("ways", straight, around), True)
        self.judged("a", "b", ("ways", around, straight), True)
        self.judged("j", "k", ("ways", [("v", "j", "k")], [("w", "j", "k")]), True)
        self.judged("a", "b", ("ways", straight, straight), False)
        self.judged("a", "b", ("ways", around, around), False)
        self.judged("b", "a", ("ways", straight, around), False)
        self.judged("a", "b", ("ways", straight, around[:1]), False)
        self.judged("a", "b", ("ways", around[1:], straight), False)
        self.judged("a", "b", ("ways", straight, []), False)
        self.judged("a", "b", ("ways", [], straight), False)
        self.judged("a", "b", ("ways", [], []), False)
        self.judged("a", "b", ("ways", straight, [("x", "a", "b")]), False)
        self.judged("a", "d", ("ways", [("r", "a", "c"), ("m", "c", "d")],
                               [("p", "a", "b"), ("q", "b", "c"), ("m", "c", "d")]), False)

    def test_equal_houses(self):
        self.judged("a", "a", ("ways", [], []), True)
        self.judged("i", "i", ("ways", [], []), True)
        self.judged("a", "a", ("ways", [], [("p", "a", "b"), ("p", "b", "a")]), False)
        self.judged("z", "z", ("ways", [], []), False)
        self.judged("", "", ("ways", [], []), False)
        self.judged("a", "a", ("cut", ["a"]), False)
        self.judged("h", "h", ("bridge", "o", ["h"]), False)

    def test_bridges(self):
        self.judged("a", "d", ("bridge", "m", ["a", "b", "c", "h"]), True)
        self.judged("d", "a", ("bridge", "m", ["d", "e", "f", "g"]), True)
        self.judged("a", "g", ("bridge", "m", ["a", "b", "c", "h"]), True)
        self.judged("a", "g", ("bridge", "n", ["a", "b", "c", "d", "h"]), True)
        self.judged("a", "d", ("bridge", "m", ["a", "b", "c", "h", "i", "j", "k"]), True)
        self.judged("h", "a", ("bridge", "o", ["h"]), True)
        self.judged("a", "d", ("bridge", "n", ["a", "b", "c", "h"]), False)
        self.judged("a", "d", ("bridge", "x", ["a", "b", "c", "h"]), False)
        self.judged("a", "d", ("bridge", "", ["a", "b", "c", "h"]), False)
        self.judged("a", "d", ("bridge", "m", ["d", "e", "f", "g"]), False)
        self.judged("a", "b", ("bridge", "m", ["a", "b", "c", "h"]), False)
        self.judged("d", "g", ("bridge", "m", ["a", "b", "c", "h"]), False)
        self.judged("a", "d", ("bridge", "m", ["a", "c", "b", "h"]), False)
        self.judged("a", "d", ("bridge", "m", ["a", "b", "c", "h", "h"]), False)
        self.judged("a", "d", ("bridge", "m", ["a", "b", "c", "h", "z"]), False)
        self.judged("a", "d", ("bridge", "m", ["a", "b", "c"]), False)
        self.judged("a", "d", ("bridge", "m", ["a", "b", "c", "h", "j"]), False)
        self.judged("a", "d", ("bridge", "m", []), False)
        self.judged("a", "b", ("bridge", "p", ["a", "h"]), False)

    def test_bridges_between_houses_that_are_apart(self):
        # The side has one house and not the other, and one line crosses it, but the houses are not joined.
        self.judged("a", "i", ("bridge", "m", ["a", "b", "c", "h"]), False)
        self.judged("i", "a", ("bridge", "m", ["d", "e", "f", "g", "i"]), False)

    def test_cuts(self):
        self.judged("a", "i", ("cut", ["a", "b", "c", "d", "e", "f", "g", "h"]), True)
        self.judged("i", "a", ("cut", ["i"]), True)
        self.judged("i", "a", ("cut", ["i", "j", "k"]), True)
        self.judged("a", "i", ("cut", ["i"]), False)
        self.judged("i", "a", ("cut", ["i", "j"]), False)
        self.judged("i", "j", ("cut", ["i", "j", "k"]), False)
        self.judged("i", "a", ("cut", ["j", "i", "k"]), False)
        self.judged("i", "a", ("cut", ["i", "i"]), False)
        self.judged("i", "a", ("cut", ["i", "z"]), False)
        self.judged("a", "d", ("cut", ["a", "b", "c", "h"]), False)

    def test_houses_that_do_not_stand(self):
        side = ["a", "b", "c", "h"]
        for house in ["z", "", "A", "m"]:
            self.judged("a", house, ("ways", [("p", "a", "b")], [("r", "a", "c"), ("q", "c", "b")]), False)
            self.judged(house, "a", ("ways", [], []), False)
            self.judged("a", house, ("bridge", "m", side), False)
            self.judged(house, "d", ("bridge", "m", side), False)
            self.judged(house, "d", ("bridge", "m", side + [house]), False)
            self.judged("i", house, ("cut", ["i"]), False)
            self.judged(house, "i", ("cut", ["j", "k"]), False)
            self.judged(house, "i", ("cut", [house]), False)

    def test_another_string(self):
        ways = ([("p", "a", "b")], [("r", "a", "c"), ("q", "c", "b")])
        for word in NO_WORDS:
            self.judged("a", "b", (word, *ways), False)
            self.judged("h", "a", (word, "o", ["h"]), False)
            self.judged("i", "a", (word, ["i"]), False)
            self.judged("a", "a", (word,), False)

    def test_another_number_of_items(self):
        ways = ([("p", "a", "b")], [("r", "a", "c"), ("q", "c", "b")])
        for certificate in [("ways",), ("ways", ways[0]), ("ways", *ways, []), ("ways", *ways, None), ("ways", None), ("ways", ways)]:
            self.judged("a", "b", certificate, False)
        for certificate in [("bridge",), ("bridge", "o"), ("bridge", ["h"]), ("bridge", "o", ["h"], []), ("bridge", 1, 2, 3),
                            ("bridge", None)]:
            self.judged("h", "a", certificate, False)
        for certificate in [("cut",), ("cut", ["i"], ["i"]), ("cut", ["i"], None), ("cut", 1, 2), ("cut", 1, 2, 3, 4)]:
            self.judged("i", "a", certificate, False)

    def test_spoilt_answers(self):
        source = random.Random(62)
        for web in random_webs(80, 6, 9):
            for _ in range(6):
                if not web.houses:
                    continue
                a, b = source.choice(web.houses), source.choice(web.houses)
                got = list(two_ways(web, a, b))
                at = source.randrange(1, len(got))
                if isinstance(got[at], str):
                    got[at] = source.choice([row[0] for row in web.lines])
                elif source.randrange(2) and got[at]:
                    del got[at][source.randrange(len(got[at]))]
                else:
                    got[at].insert(source.randint(0, len(got[at])),
                                   (source.choice("klm"), a, b) if got[0] == "ways" else source.choice(web.houses))
                due = TwoWaysTest().judge(web, a, b, tuple(got))
                self.assertIs(is_two_ways(web, a, b, tuple(got)), due, got)


class JoinsTest(KeptTest):
    def test_least_joins(self):
        self.assertExactly(least_joins(WEB), [("a", "i"), ("i", "j")])
        self.assertExactly(least_joins(Web()), [])
        self.assertExactly(least_joins(web_of("a")), [])
        self.assertExactly(least_joins(web_of("c b a")), [("a", "b"), ("b", "c")])
        self.assertExactly(least_joins(web_of("a b", "p a b")), [])
        self.assertExactly(least_joins(web_of("a b c d", "p a c, q b d")), [("a", "b")])

    def test_webs(self):
        for web in random_webs(100, 9, 6):
            parts = parts_by_hand(web.houses, web.lines)
            joins = least_joins(web)
            self.assertExactly(joins, [(left[0], right[0]) for left, right in zip(parts, parts[1:])])
            self.assertIs(is_joins(web, joins), True)
            self.assertIs(is_joins(web, [(b, a) for a, b in joins[::-1]]), True)
            if joins:
                self.assertIs(is_joins(web, joins[1:]), False)
                self.assertIs(is_joins(web, joins + joins[:1]), False)
                self.assertIs(is_joins(web, joins[1:] + joins[1:2]), False)
                joins.clear()
                self.assertEqual(len(least_joins(web)), len(parts) - 1)

    def judged(self, joins, due):
        self.assertIs(is_joins(WEB, joins), due, joins)

    def test_is_joins(self):
        self.judged([("a", "i"), ("i", "j")], True)
        self.judged([("i", "j"), ("a", "i")], True)
        self.judged([("g", "k"), ("i", "b")], True)
        self.judged([("k", "g"), ("k", "i")], True)

    def test_pairs_of_one_house_or_of_none(self):
        self.judged([("a", "i"), ("j", "j")], False)
        self.judged([("a", "i"), ("i", "j"), ("j", "j")], False)
        for house in ["z", "", "A", "p"]:
            self.judged([("a", "i"), (house, "j")], False)
            self.judged([("a", "i"), ("j", house)], False)
            self.judged([("a", "i"), (house, house)], False)
            self.judged([("a", "i"), ("i", "j"), ("a", house)], False)

    def test_the_number_of_pairs(self):
        self.judged([], False)
        self.judged([("a", "i")], False)
        self.judged([("a", "i"), ("i", "j"), ("a", "j")], False)
        self.judged([("a", "i"), ("i", "j"), ("i", "j")], False)
        self.judged([("a", "i"), ("i", "j"), ("a", "b")], False)

    def test_pairs_that_leave_two_parts(self):
        self.judged([("a", "i"), ("a", "i")], False)
        self.judged([("a", "i"), ("i", "b")], False)
        self.judged([("a", "i"), ("j", "k")], False)
        self.judged([("a", "d"), ("i", "j")], False)

    def test_no_house_and_one_part(self):
        self.assertIs(is_joins(Web(), []), True)
        self.assertIs(is_joins(Web(), [("a", "b")]), False)
        self.assertIs(is_joins(web_of("a"), []), True)
        self.assertIs(is_joins(web_of("a"), [("a", "a")]), False)
        self.assertIs(is_joins(web_of("a b", "p a b"), []), True)
        self.assertIs(is_joins(web_of("a b", "p a b"), [("a", "b")]), False)

    def test_what_is_judged_stays(self):
        joins = [("k", "g"), ("k", "i")]
        is_joins(WEB, joins)
        self.assertExactly(joins, [("k", "g"), ("k", "i")])

    def test_more_lines_than_the_bound(self):
        # A web at the bound of lines: the pairs that are judged are not put in.
        houses = many_houses(31)
        web = Web(houses + ["z"], [("l%02d" % at, houses[at % 30], houses[at % 30 + 1]) for at in range(96)])
        self.assertExactly(least_joins(web), [("h00", "z")])
        self.assertIs(is_joins(web, [("z", "h07")]), True)


if __name__ == "__main__":
    unittest.main()
