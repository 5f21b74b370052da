"""Points 3, 4, 5, 6, 7 and 12: webs."""

import unittest

from keptjoined.webs import Web
from tests.helpers import (
    NO_NAMES, Alike, KeptTest, Unlike, full_web, many_houses, many_lines, random_webs, web_of)


def state(web):
    return (web.houses, web.lines, len(web), list(web), [web.ends(line) for line, _, _ in web.lines],
            [web.lines_at(house) for house in web.houses])


class MadeTest(KeptTest):
    def test_the_empty_web(self):
        for web in [Web(), Web([]), Web([], []), Web((), ())]:
            self.assertExactly(web.houses, [])
            self.assertExactly(web.lines, [])
            self.assertExactly(len(web), 0)
            self.assertExactly(list(web), [])

    def test_one_house(self):
        web = Web(["a"])
        self.assertExactly((web.houses, web.lines, web.lines_at("a")), (["a"], [], []))

    def test_any_order_and_either_direction(self):
        due = [("k", "b", "c"), ("l", "a", "b"), ("l0", "a", "c"), ("m", "a", "b")]
        for houses in [["a", "b", "c"], ["c", "b", "a"], ("b", "c", "a")]:
            for lines in [due, tuple(due), list(reversed(due)), [list(line) for line in due],
                          tuple(list(line) for line in due),
                          [(line, high, low) for line, low, high in due],
                          [["m", "b", "a"], ("l", "a", "b"), ["l0", "c", "a"], ("k", "c", "b")]]:
                web = Web(houses, lines)
                self.assertExactly(web.houses, ["a", "b", "c"])
                self.assertExactly(web.lines, due)
                self.assertExactly(list(web), due)
                self.assertExactly(len(web), 4)
                self.assertTrue(web == Web(["a", "b", "c"], due))

    def test_lists_of_lists_give_tuples(self):
        web = Web(["a", "b"], [["l", "b", "a"]])
        self.assertIs(type(web.lines[0]), tuple)
        self.assertIs(type(list(web)[0]), tuple)
        self.assertIs(type(web.ends("l")), tuple)

    def test_a_line_may_have_the_name_of_a_house(self):
        web = web_of("a b", "a a b, b b a")
        self.assertExactly(web.lines, [("a", "a", "b"), ("b", "a", "b")])
        self.assertExactly(web.lines_at("a"), ["a", "b"])
        self.assertExactly(web.ends("b"), ("a", "b"))

    def test_ends_and_lines_at(self):
        web = web_of("a b c d e", "p d a, q b a, r a b, s c b")
        self.assertExactly([web.ends(line) for line in "pqrs"], [("a", "d"), ("a", "b"), ("a", "b"), ("b", "c")])
        self.assertExactly([web.lines_at(house) for house in "abcde"],
                           [["p", "q", "r"], ["q", "r", "s"], ["s"], ["p"], []])

    def test_digits_come_before_letters_and_a_prefix_before_the_longer_name(self):
        web = web_of("aa a9 a b10 b2 b", "z a b, a9 a b, aa a b, a a b")
        self.assertExactly(web.houses, ["a", "a9", "aa", "b", "b10", "b2"])
        self.assertExactly([line for line, _, _ in web.lines], ["a", "a9", "aa", "z"])
        self.assertExactly(web.lines_at("b"), ["a", "a9", "aa", "z"])

    def test_at_the_bounds(self):
        web = full_web()
        self.assertEqual(web.houses, many_houses(32))
        self.assertEqual((len(web), len(list(web)), len(web.lines)), (96, 96, 96))
        self.assertEqual(Web(list(reversed(web.houses)), list(reversed(web.lines))), web)


class ChangedTest(KeptTest):
    def test_with_house(self):
        web = web_of("b d", "l b d")
        before = state(web)
        for house in ["a", "c", "e", "l"]:
            wider = web.with_house(house)
            self.assertIs(type(wider), Web)
            self.assertExactly(wider.houses, sorted(["b", "d", house]))
            self.assertExactly(wider.lines, [("l", "b", "d")])
            self.assertExactly(wider.lines_at(house), [])
            self.assertExactly(state(web), before)
        self.assertExactly(Web().with_house("a").houses, ["a"])

    def test_with_line(self):
        web = web_of("a b c", "m a b")
        before = state(web)
        for name in ["l", "m0", "n", "a"]:
            for a, b in [("a", "b"), ("b", "a"), ("c", "b"), ("a", "c")]:
                wider = web.with_line(name, a, b)
                self.assertIs(type(wider), Web)
                self.assertExactly(wider.lines, sorted([("m", "a", "b"), (name, min(a, b), max(a, b))]))
                self.assertExactly(wider.ends(name), (min(a, b), max(a, b)))
                self.assertExactly(wider.houses, ["a", "b", "c"])
                self.assertTrue(name in wider and name not in web)
                self.assertTrue(name in wider.lines_at(a) and name in wider.lines_at(b))
                self.assertExactly(state(web), before)

    def test_without_line(self):
        web = web_of("a b c", "l a b, m a b, n b c")
        before = state(web)
        for name in ["l", "m", "n"]:
            less = web.without_line(name)
            self.assertIs(type(less), Web)
            self.assertExactly(less.lines, [line for line in web.lines if line[0] != name])
            self.assertExactly(less.houses, ["a", "b", "c"])
            self.assertFalse(name in less)
            self.assertRefused("NoLine", [name], less.ends, name)
            self.assertRefused("NoLine", [name], less.without_line, name)
            self.assertExactly(state(web), before)
            self.assertExactly(less.with_line(name, *web.ends(name)).lines, web.lines)

    def test_a_line_may_be_put_again_between_other_houses(self):
        web = web_of("a b c", "l a b").without_line("l").with_line("l", "c", "b")
        self.assertExactly(web.lines, [("l", "b", "c")])
        self.assertExactly((web.lines_at("a"), web.lines_at("b"), web.lines_at("c")), ([], ["l"], ["l"]))

    def test_one_by_one_is_as_all_at_once(self):
        for web in random_webs(60, 7, 10):
            built = Web()
            for house in reversed(web.houses):
                built = built.with_house(house)
            for line, low, high in reversed(web.lines):
                built = built.with_line(line, high, low)
            self.assertExactly(state(built), state(web))
            self.assertTrue(built == web)
            for line, low, high in web.lines:
                built = built.without_line(line)
                self.assertEqual(built.lines, [row for row in web.lines if row[0] > line])
            self.assertTrue(built == Web(web.houses))


class KeptTheSameTest(KeptTest):
    def test_what_was_passed_is_neither_changed_nor_kept(self):
        houses = ["b", "a"]
        line = ["l", "b", "a"]
        lines = [line]
        web = Web(houses, lines)
        self.assertEqual((houses, lines, line), (["b", "a"], [["l", "b", "a"]], ["l", "b", "a"]))
        before = state(web)
        houses.append("c")
        houses[0] = "z"
        line[0] = "m"
        line[1] = "z"
        lines.append(("n", "a", "b"))
        self.assertExactly(state(web), before)
        self.assertFalse("m" in web or "n" in web)
        self.assertTrue("l" in web)

    def test_what_was_passed_in_ascending_order_is_not_kept_either(self):
        houses = ["a", "b"]
        lines = [("l", "a", "b")]
        web = Web(houses, lines)
        houses.append("c")
        lines.append(("m", "a", "b"))
        self.assertExactly((web.houses, web.lines, len(web)), (["a", "b"], [("l", "a", "b")], 1))

    def test_what_was_returned_may_be_changed(self):
        web = web_of("a b", "l a b, m a b")
        before = state(web)
        web.houses.append("z")
        web.houses.clear()
        web.lines.append(("z", "a", "b"))
        web.lines.clear()
        web.lines_at("a").clear()
        web.lines_at("b").append("z")
        self.assertExactly(state(web), before)
        self.assertFalse("z" in web)

    def test_new_webs_share_nothing_that_can_be_changed(self):
        web = web_of("a b", "l a b")
        others = [web.with_house("c"), web.with_line("m", "a", "b"), web.without_line("l")]
        before = [state(other) for other in others]
        for other in [web] + others:
            other.houses.append("z")
            other.lines.append(("z", "a", "b"))
            other.lines_at("a").append("z")
        self.assertExactly([state(other) for other in others], before)

    def test_a_refused_call_changes_nothing(self):
        web = web_of("a b c", "l a b, m b c")
        before = state(web)
        for call, given in [(web.with_line, ("n", "a", "a")), (web.with_line, ("l", "a", "b")),
                            (web.with_line, ("n", "a", "z")), (web.with_line, ("n", "a", 5)),
                            (web.with_house, ("a",)), (web.with_house, ("A",)), (web.without_line, ("n",)),
                            (web.ends, ("n",)), (web.lines_at, ("n",))]:
            with self.assertRaises(ValueError):
                call(*given)
            self.assertExactly(state(web), before)


class ComparedTest(KeptTest):
    def test_in_is_true_for_the_names_of_lines_alone(self):
        web = web_of("a b c", "l a b, b b c")
        for line in ["l", "b"]:
            self.assertIs(line in web, True)
            self.assertIs(line not in web, False)
        for value in ["a", "c", "m", "L", "l ", "", ("l", "a", "b"), ["l"], ("l",), b"l", object(), Web(), web, {"l"},
                      {"l": 1}, 1.5, Alike("l"), Unlike()] + NO_NAMES:
            self.assertIs(value in web, False, repr(value))
            self.assertIs(value in Web(), False, repr(value))

    def test_equal_webs(self):
        web = web_of("a b c", "l a b, m b c")
        for other in [web, web_of("c b a", "m c b, l b a"), web.with_house("d").without_line("l").without_line("m"),
                      web.without_line("l").with_line("l", "b", "a")]:
            same = other.houses == ["a", "b", "c"]
            self.assertIs(web == other, same)
            self.assertIs(other == web, same)
            self.assertIs(web != other, not same)
        self.assertIs(Web() == Web([], []), True)
        self.assertIs(Web() != Web([], []), False)

    def test_webs_that_differ(self):
        web = web_of("a b c", "l a b, m b c")
        for other in [web_of("a b c"), web_of("a b c d", "l a b, m b c"), web_of("a b c", "l a b"),
                      web_of("a b c", "l a c, m b c"), web_of("a b c", "l a b, n b c"), web_of("a b d", "l a b, m b d"),
                      web_of("a b c", "l a b, m b c, n a b"), web_of("a b c", "m a b, l b c"), Web(), Web(["a"])]:
            self.assertIs(web == other, False)
            self.assertIs(other == web, False)
            self.assertIs(web != other, True)
            self.assertIs(other != web, True)
        self.assertIs(Web(["a"]) == Web(["b"]), False)
        self.assertIs(Web(["a"]) == Web(), False)

    def test_values_of_another_class(self):
        web = web_of("a b", "l a b")
        for other in [None, True, False, 0, 1, 2, "", "l", [], (), {}, web.houses, web.lines, tuple(web.lines),
                      (web.houses, web.lines), [web.houses, web.lines], object(), set()]:
            for one in [web, Web()]:
                self.assertIs(one == other, False, repr(other))
                self.assertIs(other == one, False, repr(other))
                self.assertIs(one != other, True, repr(other))

    def test_iteration_can_be_repeated_and_nested(self):
        web = web_of("a b c", "n a b, l b c, m a c")
        due = [("l", "b", "c"), ("m", "a", "c"), ("n", "a", "b")]
        self.assertExactly(list(web), due)
        self.assertExactly(list(web), due)
        self.assertExactly([(one, two) for one in web for two in web], [(one, two) for one in due for two in due])


class LookedUpTest(KeptTest):
    def test_errors_of_ends_and_without_line(self):
        web = web_of("a b c", "l a b")
        for call in [web.ends, web.without_line, Web().ends, Web(["a"]).without_line]:
            for word in NO_NAMES:
                self.assertRefused("BadName", [word], call, word)
            for word in ["a", "m", "l0"]:
                self.assertRefused("NoLine", [word], call, word)

    def test_errors_of_lines_at(self):
        web = web_of("a b c", "l a b")
        for word in NO_NAMES:
            self.assertRefused("BadName", [word], web.lines_at, word)
        for word in ["l", "d", "a0"]:
            self.assertRefused("NoHouse", [word], web.lines_at, word)
            self.assertRefused("NoHouse", [word], Web().lines_at, word)

    def test_errors_of_with_house(self):
        web = web_of("a b", "l a b")
        for word in NO_NAMES:
            self.assertRefused("BadName", [word], web.with_house, word)
            self.assertRefused("BadName", [word], full_web().with_house, word)
        self.assertRefused("Taken", ["a"], web.with_house, "a")
        self.assertRefused("Taken", ["b"], web.with_house, "b")
        self.assertRefused("Taken", ["h31"], full_web().with_house, "h31")
        self.assertRefused("TooMany", [32], full_web().with_house, "new")
        self.assertEqual(Web(many_houses(31)).with_house("new").houses, many_houses(31) + ["new"])


class LineRefusedTest(KeptTest):
    """The errors of a line, which are those of with_line and of the constructor alike."""

    def refused(self, code, values, web, line, a, b):
        self.assertRefused(code, values, web.with_line, line, a, b)
        self.assertRefused(code, values, Web, web.houses, web.lines + [(line, a, b)])
        self.assertRefused(code, values, Web, web.houses, web.lines + [[line, a, b], ("NO", "no", "no"), (1, 2, 3)])
        self.assertRefused(code, values, Web, tuple(web.houses), tuple(web.lines) + ((line, a, b), ("N", "a", "a")))

    def test_forms_come_in_the_order_of_the_parameters(self):
        for web in [web_of("a b", "l a b"), Web(), full_web()]:
            for word in NO_NAMES:
                self.refused("BadName", [word], web, word, "a", "b")
                self.refused("BadName", [word], web, word, "A", None)
                self.refused("BadName", [word], web, "l", word, "b")
                self.refused("BadName", [word], web, "l", word, 7)
                self.refused("BadName", [word], web, "l", "a", word)
                self.refused("BadName", [word], web, "l", "zz", word)
                self.refused("BadName", [word], web, "m", word, word)

    def test_then_the_houses(self):
        for web in [web_of("a b", "l a b, m a b"), full_web().without_line("l05"), full_web()]:
            house = web.houses[0]
            for line in ["l", "l00", "new"]:
                self.refused("NoHouse", ["zz"], web, line, "zz", "yy")
                self.refused("NoHouse", ["yy"], web, line, "yy", "zz")
                self.refused("NoHouse", ["zz"], web, line, house, "zz")
                self.refused("NoHouse", ["zz"], web, line, "zz", house)
                self.refused("NoHouse", ["zz"], web, line, "zz", "zz")
                self.refused("NoHouse", ["l"], web, line, "l", house)

    def test_then_equal_ends(self):
        for web in [web_of("a b", "l a b"), full_web()]:
            for line in ["l", "l00", "new", web.houses[0]]:
                for house in web.houses[:3]:
                    self.refused("SelfLine", [line], web, line, house, house)

    def test_then_the_name(self):
        web = web_of("a b c", "l a b, m b c")
        for line in ["l", "m"]:
            for a, b in [("a", "b"), ("b", "a"), ("a", "c"), ("c", "b")]:
                self.refused("Taken", [line], web, line, a, b)
        full = full_web()
        for line in ["l00", "l95"]:
            self.refused("Taken", [line], full, line, "h00", "h01")
            self.refused("Taken", [line], full, line, "h31", "h00")

    def test_then_the_bound(self):
        full = full_web()
        self.refused("TooMany", [96], full, "new", "h00", "h01")
        self.refused("TooMany", [96], full, "h00", "h31", "h05")
        almost = full.without_line("l40")
        self.assertEqual(len(almost.with_line("new", "h00", "h01")), 96)
        self.assertEqual(len(Web(almost.houses, almost.lines + [("new", "h00", "h01")])), 96)
        small = Web(["a", "b"], many_lines(96, ["a", "b"]))
        self.refused("TooMany", [96], small, "new", "a", "b")

    def test_the_length_of_the_list_is_not_looked_at_beforehand(self):
        full = full_web()
        self.assertRefused("Taken", ["l00"], Web, full.houses, full.lines + [("l00", "h00", "h01")])
        self.assertRefused("Taken", ["l00"], Web, full.houses, full.lines[:2] + full.lines[:1] + full.lines[2:]
                           + [("new", "h00", "h01")])
        self.assertRefused("BadName", ["N"], Web, full.houses, [("N", "h00", "h01")] + full.lines + full.lines)

    def test_each_item_goes_through_all_steps_before_the_next(self):
        houses = ["a", "b"]
        self.assertRefused("NoHouse", ["z"], Web, houses, [("l", "a", "z"), (1, "a", "b")])
        self.assertRefused("SelfLine", ["l"], Web, houses, [("l", "a", "a"), ("m", "z", "a")])
        self.assertRefused("Taken", ["l"], Web, houses, [("l", "a", "b"), ("l", "a", "b"), ("M", "a", "b")])
        self.assertRefused("BadName", ["M"], Web, houses, [("l", "a", "b"), ("M", "a", "b"), ("l", "a", "b")])
        full = full_web()
        self.assertRefused("TooMany", [96], Web, full.houses, full.lines + [("m", "h00", "h01"), ("N", "h00", "h01")])

    def test_houses_are_added_before_lines(self):
        self.assertRefused("BadName", ["A"], Web, ["a", "b", "A"], [(1, 2, 3)])
        self.assertRefused("Taken", ["a"], Web, ["a", "b", "a"], [("l", "b", "b")])
        self.assertRefused("TooMany", [32], Web, many_houses(33), [("L", "h00", "h01")])
        self.assertRefused("Taken", ["h03"], Web, many_houses(32) + ["h03"])
        self.assertRefused("BadName", [None], Web, many_houses(32) + [None])
        for word in NO_NAMES:
            self.assertRefused("BadName", [word], Web, ["a", word], [("l", "a", "z")])


if __name__ == "__main__":
    unittest.main()
