"""Points 2, 4, 5, 6 and 11: names, numbers, bounds, houses passed to a constructor, levels."""

import unittest

from keptjoined import names
from keptjoined.names import (
    check_houses, check_name, check_number, is_name, most_houses, ordered, top_level)
from tests.helpers import NO_NAMES, KeptTest, many_houses

GOOD_NAMES = ["a", "z", "m", "a1", "z9", "a0", "ab", "a123", "az09", "a" * 12, "z" * 12, "a" + "0" * 11, "abcdefghijkl",
              "mnopqrstuvwx", "yz", "x0123456789"]


class NameTest(KeptTest):
    def test_names_of_1_to_12_characters_are_names(self):
        for word in GOOD_NAMES:
            self.assertIs(is_name(word), True, word)
            self.assertExactly(check_name(word), word)

    def test_every_length_from_0_to_40(self):
        for length in range(41):
            self.assertIs(is_name("a" * length), 1 <= length <= 12, length)

    def test_other_values_are_no_names(self):
        for word in NO_NAMES:
            self.assertIs(is_name(word), False, repr(word))
            self.assertRefused("BadName", [word], check_name, word)

    def test_every_character_in_first_and_in_later_places(self):
        letters = "abcdefghijklmnopqrstuvwxyz"
        for code in [at for at in range(32, 127) if at != 37] + [10]:
            sign = chr(code)
            self.assertIs(is_name(sign), sign in letters, sign)
            self.assertIs(is_name(sign + "b"), sign in letters, sign)
            for word in ["b" + sign, "b" + sign + "b", "bbbbbbbbbbb" + sign]:
                self.assertIs(is_name(word), sign in letters + "0123456789", word)


class NumberTest(KeptTest):
    def test_integers_in_the_range_are_returned(self):
        for number, least, most in [(0, 0, 0), (1, 1, 5), (3, 1, 5), (5, 1, 5), (-3, -3, -1), (-1, -3, -1),
                                    (10 ** 30, 0, 10 ** 30), (999999, 0, 999999)]:
            self.assertExactly(check_number(number, least, most), number)

    def test_integers_outside_the_range_are_refused(self):
        for number, least, most in [(0, 1, 5), (6, 1, 5), (-1, 0, 0), (1, 0, 0), (-4, -3, -1), (0, -3, -1),
                                    (10 ** 30, 1, 5), (-10 ** 30, 1, 5), (1000000, 0, 999999)]:
            self.assertRefused("BadNumber", [number], check_number, number, least, most)

    def test_every_number_is_refused_if_least_is_above_most(self):
        for number in range(-2, 8):
            self.assertRefused("BadNumber", [number], check_number, number, 5, 1)
        self.assertRefused("BadNumber", [0], check_number, 0, 0, -1)

    def test_values_of_other_kinds_are_refused(self):
        for number in [True, False, 1.0, 0.0, 2.5, "1", "", "a", b"1", None, [], [1], (), (1,), {}, {1: 1}, object()]:
            self.assertRefused("BadNumber", [number], check_number, number, 0, 5)
            self.assertRefused("BadNumber", [number], check_number, number, 5, 0)


class HousesTest(KeptTest):
    def test_the_names_are_returned_ascending(self):
        self.assertExactly(check_houses([]), [])
        self.assertExactly(check_houses(()), [])
        self.assertExactly(check_houses(["b", "a", "a1", "a0", "aa", "c"]), ["a", "a0", "a1", "aa", "b", "c"])
        self.assertExactly(check_houses(("b", "a")), ["a", "b"])

    def test_the_list_passed_stays_and_the_one_returned_is_new(self):
        passed = ["c", "a", "b"]
        found = check_houses(passed)
        self.assertEqual(passed, ["c", "a", "b"])
        found.append("z")
        self.assertEqual(passed, ["c", "a", "b"])
        in_order = ["a", "b"]
        self.assertIsNot(check_houses(in_order), in_order)

    def test_the_first_wrong_item_counts(self):
        self.assertRefused("BadName", ["B"], check_houses, ["a", "B", "a"])
        self.assertRefused("Taken", ["a"], check_houses, ["a", "a", "B"])
        self.assertRefused("Taken", ["b"], check_houses, ["a", "b", "b", "a"])
        self.assertRefused("Taken", ["a"], check_houses, ["b", "a", "a", "b"])
        for word in NO_NAMES:
            self.assertRefused("BadName", [word], check_houses, [word])
            self.assertRefused("BadName", [word], check_houses, ("b", "a", word, "b"))
        wrong = ["a"]
        self.assertRefused("BadName", [wrong], check_houses, [wrong, wrong])

    def test_32_houses_are_accepted_and_33_are_not(self):
        houses = many_houses(33)
        self.assertEqual(check_houses(houses[:32]), houses[:32])
        self.assertEqual(check_houses(list(reversed(houses[:32]))), houses[:32])
        self.assertRefused("TooMany", [32], check_houses, houses)
        self.assertRefused("TooMany", [32], check_houses, many_houses(60))

    def test_the_length_is_not_looked_at_beforehand(self):
        houses = many_houses(32)
        self.assertRefused("Taken", ["h00"], check_houses, houses + ["h00"])
        self.assertRefused("Taken", ["h31"], check_houses, houses + ["h31", "new"])
        self.assertRefused("BadName", ["NEW"], check_houses, houses + ["NEW", "new"])
        self.assertRefused("TooMany", [32], check_houses, houses + ["new", "NEW", "h00"])
        self.assertRefused("Taken", ["h01"], check_houses, houses[:2] + ["h01"] + houses[2:] + ["new"])
        self.assertRefused("BadName", [0], check_houses, houses[:2] + [0] + houses[2:] + ["new"])


class OrderedTest(KeptTest):
    def test_both_directions_and_equal_names(self):
        for a, b in [("a", "b"), ("a", "aa"), ("a0", "aa"), ("a9", "b"), ("az", "b"), ("a1", "a10"), ("a10", "a2")]:
            self.assertExactly(ordered(a, b), (a, b))
            self.assertExactly(ordered(b, a), (a, b))
        self.assertExactly(ordered("a", "a"), ("a", "a"))


class LevelTest(KeptTest):
    def test_top_level_of_small_counts(self):
        self.assertExactly([top_level(count) for count in range(18)],
                           [0, 0, 1, 1, 2, 2, 2, 2, 3, 3, 3, 3, 3, 3, 3, 3, 4, 4])

    def test_top_level_next_to_powers_of_two_and_up_to_10000(self):
        for k in range(1, 14):
            self.assertExactly(top_level(2 ** k), k)
            self.assertExactly(top_level(2 ** k - 1), k - 1)
            self.assertExactly(top_level(2 ** k + 1), k)
        for count in range(1, 10001):
            k = top_level(count)
            self.assertTrue(2 ** k <= count < 2 ** (k + 1), count)
        self.assertExactly(top_level(10000), 13)

    def test_most_houses(self):
        self.assertExactly([most_houses(5, level) for level in range(5)], [5, 2, 1, 0, 0])
        self.assertExactly([most_houses(32, level) for level in range(7)], [32, 16, 8, 4, 2, 1, 0])
        self.assertExactly([most_houses(31, level) for level in range(7)], [31, 15, 7, 3, 1, 0, 0])
        for count in [0, 1, 2, 3, 4, 5, 7, 8, 9, 31, 32, 33, 1023, 1024, 4097, 9999, 10000]:
            for level in range(61):
                self.assertExactly(most_houses(count, level), count // 2 ** level)

    def test_the_example_of_the_document(self):
        self.assertExactly((top_level(0), top_level(1), top_level(5), most_houses(5, 1)), (0, 0, 2, 2))

    def test_the_bounds(self):
        self.assertExactly((names.MOST_HOUSES, names.MOST_LINES, names.MOST_DEEDS, names.MOST_WEIGHT),
                           (32, 96, 240, 999999))


if __name__ == "__main__":
    unittest.main()
