"""Points 96 and 97, and 4 to 9 as far as they speak of worst.py."""

import itertools
import random
import unittest

from keptjoined.levels import Levels
from keptjoined.webs import Web
from keptjoined.worst import is_worst, rises_of, worst_row
from tests.helpers import NO_NAMES, KeptTest, many_houses, many_lines, rows_of, web_of

NO_COUNTS = [-1, 8, 10 ** 20, True, False, 1.0, None, "1", "", [], [1], (1,), {}, object()]


def rises_by_hand(web, menu, names):
    """The rises of levels with forests, which count them."""
    levels = Levels(web.houses)
    for row in web.lines:
        levels.put(*row)
    rows = {row[0]: row for row in menu}
    for name in names:
        if name in [row[0] for row in levels.lines]:
            levels.take(name)
        else:
            levels.put(*rows[name])
    return levels.counts()["rises"]


def worst_by_hand(web, menu, count):
    """All lists that reach the greatest number of rises, ascending, behind that number."""
    found = {names: rises_by_hand(web, menu, names) for names in itertools.product(sorted(row[0] for row in menu), repeat=count)}
    if not found:
        return None
    most = max(found.values())
    return most, sorted(list(names) for names in found if found[names] == most)


class WorstTest(KeptTest):
    def setUp(self):
        # Taking q lets p rise, and s too if it stands.
        self.web = web_of("a b c d", "p a b, q b c, r c d, t a d")
        self.menu = [("q", "c", "b"), ["s", "b", "a"], ("p", "a", "b")]

    def cases(self):
        source = random.Random(96)
        for seed in range(24):
            houses = many_houses(source.randint(2, 8))
            lines = [("l%d" % at, *source.sample(houses, 2)) for at in range(source.randint(0, 12))]
            menu = [("m%d" % at, *source.sample(houses, 2)) for at in range(source.randint(0, 4))]
            menu += [(line, *source.sample([a, b], 2)) for line, a, b in source.sample(lines, min(len(lines), 3))]
            source.shuffle(menu)
            yield source, Web(houses, lines), menu


class RisesTest(WorstTest):
    def test_by_hand(self):
        for names, due in [([], 0), (["q"], 1), (["s"], 0), (["s", "q"], 2), (["q", "q"], 1), (["s", "s", "q"], 1),
                           (["q", "q", "q"], 1), (["p"], 0), (["s", "q", "p"], 2)]:
            self.assertExactly(rises_of(self.web, self.menu, names), due)
            self.assertExactly(rises_of(self.web, tuple(self.menu), tuple(names)), due)
            self.assertExactly(rises_by_hand(self.web, self.menu, names), due)
        self.assertExactly(rises_of(Web(), [], []), 0)
        self.assertExactly(rises_of(self.web, [], []), 0)

    def test_beside_levels(self):
        most = 0
        for source, web, menu in self.cases():
            for _ in range(6):
                names = source.choices([row[0] for row in menu], k=source.randint(1, 20)) if menu else []
                due = rises_by_hand(web, menu, names)
                self.assertExactly(rises_of(web, menu, names), due)
                most = max(most, due)
        # With more houses and a menu of all lines there are more rises.
        for seed in range(10):
            houses = many_houses(16)
            lines = [(line, *random.Random(at + 12 * seed).sample(houses[:7], 2)) for at, (line, _, _) in
                     enumerate(many_lines(12, houses))]
            web = Web(houses, lines)
            names = random.Random(seed).choices([row[0] for row in lines], k=20)
            due = rises_by_hand(web, lines, names)
            self.assertExactly(rises_of(web, lines, names), due)
            most = max(most, due)
        self.assertGreater(most, 5)

    def test_names_of_the_menu_toggle_its_lines(self):
        # m is put between other houses than any line of the web, and a line may be named like a house.
        web = web_of("a b c d", "q b c, r c d")
        menu = [("a", "b", "a")]
        self.assertExactly([rises_of(web, menu, ["a"] * count) for count in range(5)],
                           [rises_by_hand(web, menu, ["a"] * count) for count in range(5)])

    def test_what_is_passed_stays(self):
        names = ["s", "q"]
        rises_of(self.web, self.menu, names)
        worst_row(self.web, self.menu, 2)
        is_worst(self.web, self.menu, 2, (2, names))
        self.assertExactly((self.menu, names), ([("q", "c", "b"), ["s", "b", "a"], ("p", "a", "b")], ["s", "q"]))
        self.assertExactly(self.web.lines, [("p", "a", "b"), ("q", "b", "c"), ("r", "c", "d"), ("t", "a", "d")])


class MenuTest(WorstTest):
    def refused(self, code, value, web, menu, names=()):
        """Both functions refuse a menu."""
        self.assertRefused(code, [value], rises_of, web, menu, list(names))
        for count in [0, 1, 7]:
            self.assertRefused(code, [value], worst_row, web, menu, count)

    def test_each_refusal(self):
        for line, code, value in [
                (("M", "A", "z"), "BadName", "M"), (("m", "A", "Z"), "BadName", "A"), (("m", "z", "Z"), "BadName", "Z"),
                (("m", "z", "y"), "NoHouse", "z"), (("p", "a", "z"), "NoHouse", "z"), (("m", "z", "z"), "NoHouse", "z"),
                (("m", "a", "a"), "SelfLine", "m"), (("p", "a", "a"), "SelfLine", "p"), (("p", "a", "c"), "Taken", "p"),
                (("r", "a", "b"), "Taken", "r"), (("q", "b", "c"), "Taken", "q"), (("s", "c", "d"), "Taken", "s"),
                (["s", "a", "b"], "Taken", "s"), (("q", "c", "d"), "Taken", "q")]:
            self.refused(code, value, self.web, self.menu + [line])
            # It goes through all of its checks before the next one, and before the names.
            self.refused(code, value, self.web, self.menu + [line, ("N", "a", "b")], ["X"])
        for word in NO_NAMES:
            for line in [(word, "A", "z"), ("m", word, "Z"), ("m", "z", word)]:
                self.refused("BadName", word, self.web, [line])

    def test_lines_of_the_web(self):
        for line in [("p", "a", "b"), ("p", "b", "a"), ["t", "d", "a"]]:
            self.assertExactly(rises_of(self.web, [line], []), 0)
            self.refused("Taken", line[0], self.web, [line, line])
        self.refused("Taken", "m", self.web, [("m", "a", "b"), ("m", "b", "a")])

    def test_twelve_and_thirteen_lines(self):
        houses = many_houses(8)
        rows = many_lines(13, houses)
        web = Web(houses, rows[:12])
        others = [("m" + line, a, b) for line, a, b in rows]
        self.assertExactly(rises_of(web, others[:12], []), 0)
        self.assertExactly(worst_row(web, others[:12], 1), (0, ["ml00"]))
        self.refused("TooMany", 12, Web(houses, rows), others[:1])
        self.refused("TooMany", 12, Web(houses, rows), [])
        self.refused("TooMany", 12, web, others)
        self.refused("TooMany", 12, web, others, ["N"])
        # All lines of the menu are checked first.
        self.refused("BadName", "N", web, others + [("N", "a", "b")])
        self.refused("Taken", "ml00", Web(houses, rows), others + others[:1])
        # Lines of the web that the menu names count in both.
        self.assertExactly(rises_of(web, rows[:12], []), 0)
        self.refused("TooMany", 12, web, rows[:12] + others[:1])

    def test_names(self):
        for names, code, value in [(["q", "N", "n"], "BadName", "N"), (["n", "N"], "NoLine", "n"), (["r"], "NoLine", "r"),
                                   (["a"], "NoLine", "a"), (["q", "q", "t"], "NoLine", "t")]:
            self.assertRefused(code, [value], rises_of, self.web, self.menu, names)
        for word in NO_NAMES:
            self.assertRefused("BadName", [word], rises_of, self.web, self.menu, ["q", word, "n"])
        self.assertRefused("NoLine", ["p"], rises_of, self.web, [], ["p"])


class WorstRowTest(WorstTest):
    def test_against_all_lists(self):
        for source, web, menu in self.cases():
            for count in range(8):
                if len(menu) ** count > 64:
                    self.assertRefused("TooMany", [64], worst_row, web, menu, count)
                    continue
                due = worst_by_hand(web, menu, count)
                if due is None:
                    self.assertIs(worst_row(web, menu, count), None)
                    self.assertIs(is_worst(web, menu, count, (0, [])), False)
                    continue
                most, lists = due
                self.assertExactly(worst_row(web, menu, count), (most, lists[0]))
                for names in lists:
                    self.assertIs(is_worst(web, menu, count, (most, names)), True)
                    self.assertIs(is_worst(web, menu, count, (most + 1, names)), False)
                    self.assertIs(is_worst(web, menu, count, (most - 1, names)), False)
                names = source.choices([row[0] for row in menu], k=count) if menu else []
                self.assertIs(is_worst(web, menu, count, (most, names)), names in lists)
                self.assertIs(is_worst(web, menu, count, (rises_of(web, menu, names), names)), names in lists)

    def test_no_menu(self):
        self.assertExactly(worst_row(self.web, [], 0), (0, []))
        self.assertExactly(worst_row(self.web, (), 0), (0, []))
        self.assertExactly(worst_row(Web(), [], 0), (0, []))
        for count in range(1, 8):
            self.assertIs(worst_row(self.web, [], count), None)
            self.assertIs(is_worst(self.web, [], count, (0, [])), False)
            self.assertIs(is_worst(self.web, [], count, (0, ["p"] * count)), False)
        self.assertIs(is_worst(self.web, [], 0, (0, [])), True)
        self.assertIs(is_worst(self.web, [], 0, (1, [])), False)

    def test_no_names(self):
        self.assertExactly(worst_row(self.web, self.menu, 0), (0, []))
        self.assertIs(is_worst(self.web, self.menu, 0, (0, [])), True)
        self.assertIs(is_worst(self.web, self.menu, 0, (0, ["q"])), False)

    def test_the_least_list(self):
        # Of three names the lists p s q and s q and any third one have two rises.
        self.assertExactly(worst_row(self.web, self.menu, 1), (1, ["q"]))
        self.assertExactly(worst_row(self.web, self.menu, 2), (2, ["s", "q"]))
        self.assertExactly(worst_row(self.web, self.menu[::-1], 2), (2, ["s", "q"]))
        self.assertExactly(worst_row(self.web, self.menu, 3), (2, worst_by_hand(self.web, self.menu, 3)[1][0]))
        # Names are compared as strings, not in the order of the menu.
        web = web_of("a b")
        self.assertExactly(worst_row(web, [("z", "a", "b"), ("a10", "a", "b"), ("a9", "a", "b")], 2), (0, ["a10", "a10"]))

    def test_wrong_counts(self):
        for number in NO_COUNTS:
            self.assertRefused("BadNumber", [number], worst_row, self.web, self.menu, number)
            # It comes before the errors of the menu.
            self.assertRefused("BadNumber", [number], worst_row, self.web, [("M", "a", "b")], number)
            self.assertRefused("BadNumber", [number], worst_row, self.web, [], number)

    def test_sixty_four_lists(self):
        houses = many_houses(4)
        web = Web(houses, many_lines(3, houses))
        menu = [("m%02d" % at, houses[at % 4], houses[(at + 1) % 4]) for at in range(12)]
        for size, count, fits in [(2, 6, True), (2, 7, False), (4, 3, True), (4, 4, False), (8, 2, True), (9, 2, False),
                                  (12, 1, True), (12, 2, False), (12, 7, False), (1, 7, True), (3, 3, True), (3, 4, False),
                                  (5, 2, True), (5, 3, False), (12, 0, True)]:
            if fits:
                self.assertExactly(worst_row(web, menu[:size], count)[0], worst_by_hand(web, menu[:size], count)[0])
            else:
                self.assertRefused("TooMany", [64], worst_row, web, menu[:size], count)
        # The bound of twelve lines comes first, as do the other errors of the menu.
        more = menu + [("n", houses[0], houses[1])]
        self.assertRefused("TooMany", [12], worst_row, web, more, 7)
        self.assertRefused("TooMany", [12], worst_row, web, more, 2)
        self.assertRefused("BadName", ["N"], worst_row, web, menu + [("N", "h00", "h01")], 2)


class IsWorstTest(WorstTest):
    def judge(self, count, found, due):
        self.assertIs(is_worst(self.web, self.menu, count, found), due)

    def test_each_condition(self):
        self.judge(2, (2, ["s", "q"]), True)
        # The number of names.
        self.judge(2, (2, ["s", "q", "q"]), False)
        self.judge(3, (2, ["s", "q"]), False)
        self.judge(2, (0, []), False)
        # Names that are not of the menu, though r is a line of the web.
        for word in ["r", "t", "n", "a"] + [word for word in NO_NAMES if isinstance(word, str)]:
            self.judge(2, (2, ["s", word]), False)
            self.judge(2, (2, [word, "q"]), False)
            self.judge(1, (1, [word]), False)
        # The integer.
        for number in [0, 1, 3, -2, 10 ** 20]:
            self.judge(2, (number, ["s", "q"]), False)
        # Another list has more rises.
        self.judge(2, (1, ["q", "q"]), False)
        self.judge(2, (2, ["q", "q"]), False)
        self.judge(2, (0, ["p", "p"]), False)
        self.judge(1, (0, ["s"]), False)

    def test_any_list_that_reaches_the_most(self):
        most, lists = worst_by_hand(self.web, self.menu, 3)
        self.assertGreater(len(lists), 1)
        for names in itertools.product("pqs", repeat=3):
            self.judge(3, (most, list(names)), list(names) in lists)

    def test_the_web_stays(self):
        web = web_of("a b c d", "p a b, q b c")
        self.assertEqual(rows_of("p a b, q b c"), web.lines)
        worst_row(web, [("q", "b", "c")], 7)
        self.assertEqual(rows_of("p a b, q b c"), web.lines)


if __name__ == "__main__":
    unittest.main()
