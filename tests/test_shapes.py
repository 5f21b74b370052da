"""Points 26 to 28, as far as they speak of shapes."""

import random
import unittest

from keptjoined.shapes import height_bound, is_balanced, least_seats, shape_height, shape_keys
from tests.helpers import KeptTest

LEAST = [0, 1, 2, 4, 7, 12, 20, 33, 54, 88, 143, 232, 376, 609, 986, 1596, 2583, 4180, 6764]


def key(at):
    return ("k%d" % at,)


def all_shapes(knots, first=0):
    """Every shape of so many knots, with the keys from first on in order."""
    if knots == 0:
        return [()]
    return [(left, key(first + less), right)
            for less in range(knots)
            for left in all_shapes(less, first)
            for right in all_shapes(knots - less - 1, first + less + 1)]


def height_by_hand(shape):
    return 0 if shape == () else 1 + max(height_by_hand(shape[0]), height_by_hand(shape[2]))


def is_balanced_by_hand(shape):
    if shape == ():
        return True
    apart = abs(height_by_hand(shape[0]) - height_by_hand(shape[2]))
    return apart <= 1 and is_balanced_by_hand(shape[0]) and is_balanced_by_hand(shape[2])


def full(height):
    return () if height == 0 else (full(height - 1), ("f",), full(height - 1))


def leaning(height, to_left):
    """A balanced shape of this height with the fewest knots, its higher sides all to the left or right."""
    if height < 2:
        return full(height)
    higher, lower = leaning(height - 1, to_left), leaning(height - 2, to_left)
    return (higher, ("l",), lower) if to_left else (lower, ("l",), higher)


def chain(height, to_left):
    shape = ()
    for at in range(height):
        shape = (shape, key(at), ()) if to_left else ((), key(at), shape)
    return shape


def exchanged(shape, path, other):
    """The shape with another one at the end of a path of 0 (left) and 2 (right)."""
    if not path:
        return other
    return tuple(exchanged(part, path[1:], other) if at == path[0] else part for at, part in enumerate(shape))


class ShapeTest(KeptTest):
    def test_the_empty_shape(self):
        self.assertIs(is_balanced(()), True)
        self.assertExactly(shape_keys(()), [])
        self.assertExactly(shape_height(()), 0)

    def test_small_shapes(self):
        one = ((), ("a",), ())
        two = (one, ("b",), ())
        three = (two, ("c",), ())
        self.assertExactly([shape_height(shape) for shape in [one, two, three]], [1, 2, 3])
        self.assertExactly([is_balanced(shape) for shape in [one, two, three]], [True, True, False])
        self.assertIs(is_balanced(((), ("a",), ((), ("b",), one))), False)
        self.assertIs(is_balanced((one, ("a",), one)), True)
        self.assertExactly(shape_keys((one, ("b", "x"), ((), ("c", "y", "z"), one))),
                           [("a",), ("b", "x"), ("c", "y", "z"), ("a",)])

    def test_every_shape_of_up_to_8_knots(self):
        for knots in range(9):
            for shape in all_shapes(knots):
                self.assertIs(is_balanced(shape), is_balanced_by_hand(shape))
                self.assertExactly(shape_height(shape), height_by_hand(shape))
                self.assertExactly(shape_keys(shape), [key(at) for at in range(knots)])

    def test_keys_of_one_to_four_strings_repeated_and_in_any_order(self):
        shape = ((((), ("z", "", "x", "z"), ()), ("a", "b", "c"), ()), ("z", "y"), ((), ("a", "b", "c"), ()))
        self.assertIs(is_balanced(shape), True)
        self.assertExactly(shape_keys(shape), [("z", "", "x", "z"), ("a", "b", "c"), ("z", "y"), ("a", "b", "c")])
        self.assertExactly(shape_height(shape), 3)

    def test_leaning_shapes_are_balanced(self):
        for to_left in [True, False]:
            for height in range(12):
                shape = leaning(height, to_left)
                self.assertIs(is_balanced(shape), True)
                self.assertExactly(shape_height(shape), height)
                self.assertEqual(len(shape_keys(shape)), LEAST[height])

    def test_heights_differ_by_one_or_two_at_the_root(self):
        for height in range(7):
            for more, due in [(0, True), (1, True), (2, False), (3, False)]:
                for one, two in [(full(height), leaning(height + more, True)), (leaning(height + more, False), full(height))]:
                    if height + more < 9:
                        self.assertIs(is_balanced((one, ("r",), two)), due)

    def test_equal_sizes_do_not_make_a_balance(self):
        # Both sides have five knots.
        tall = ((((), ("a",), ()), ("b",), ((), ("c",), ())), ("d",), ((), ("e",), ()))
        deep = chain(5, True)
        self.assertIs(is_balanced((tall, ("r",), tall)), True)
        self.assertIs(is_balanced((tall, ("r",), deep)), False)
        self.assertIs(is_balanced((deep, ("r",), deep)), False)

    def test_out_of_balance_deep_within(self):
        source = random.Random(5)
        whole = full(8)
        crooked = [chain(3, True), chain(3, False), (chain(2, True), ("x",), chain(4, True)),
                   ((((), ("x",), ()), ("y",), ()), ("z",), ())]
        for _ in range(200):
            path = [source.choice([0, 2]) for _ in range(5)]
            self.assertIs(is_balanced(exchanged(whole, path, full(3))), True)
            for shape in crooked[:2]:
                self.assertIs(is_balanced(exchanged(whole, path, shape)), False)
            self.assertIs(is_balanced(exchanged(whole, path, full(2))), True)
            self.assertIs(is_balanced(exchanged(whole, path, full(1))), False)
            self.assertIs(is_balanced(exchanged(whole, path, crooked[3])), False)
            self.assertIs(is_balanced(exchanged(whole, path[:4], (full(3), ("x",), chain(3, False)))), False)

    def test_one_side_out_of_balance_is_enough(self):
        for crooked in [chain(3, True), chain(3, False)]:
            for good in [full(3), full(2), leaning(4, True)]:
                self.assertIs(is_balanced((crooked, ("r",), good)), False)
                self.assertIs(is_balanced((good, ("r",), crooked)), False)

    def test_60_knots_high(self):
        for to_left in [True, False]:
            shape = chain(60, to_left)
            self.assertIs(is_balanced(shape), False)
            self.assertExactly(shape_height(shape), 60)
            keys = [key(at) for at in range(60)]
            self.assertExactly(shape_keys(shape), keys if to_left else keys[::-1])
        zigzag = ()
        for at in range(60):
            zigzag = (zigzag, key(at), ()) if at % 2 else ((), key(at), zigzag)
        self.assertExactly(shape_height(zigzag), 60)
        self.assertIs(is_balanced(zigzag), False)
        self.assertEqual(sorted(shape_keys(zigzag)), sorted(key(at) for at in range(60)))

    def test_400_knots(self):
        def grown(start, stop):
            if start == stop:
                return ()
            middle = (start + stop) // 2
            return grown(start, middle), key(middle), grown(middle + 1, stop)
        shape = grown(0, 400)
        self.assertIs(is_balanced(shape), True)
        self.assertExactly(shape_height(shape), 9)
        self.assertExactly(shape_keys(shape), [key(at) for at in range(400)])
        self.assertIs(is_balanced((grown(0, 390), ("r",), chain(8, True))), False)
        self.assertIs(is_balanced((grown(0, 255), ("r",), exchanged(full(7), [2] * 4, chain(3, True)))), False)
        high = (grown(0, 340), ("r",), chain(59, False))
        self.assertIs(is_balanced(high), False)
        self.assertExactly(shape_height(high), 60)

    def test_what_is_returned_may_be_changed(self):
        shape = ((), ("a",), ())
        shape_keys(shape).append(("b",))
        shape_keys(()).append(("b",))
        self.assertExactly(shape_keys(shape), [("a",)])
        self.assertExactly(shape_keys(()), [])


class BoundTest(KeptTest):
    def test_least_seats(self):
        self.assertExactly([least_seats(height) for height in range(19)], LEAST)

    def test_least_seats_is_reached_and_not_undercut(self):
        for knots in range(8):
            for shape in all_shapes(knots):
                if is_balanced_by_hand(shape):
                    self.assertLessEqual(least_seats(height_by_hand(shape)), knots)

    def test_height_bound(self):
        self.assertExactly([height_bound(size) for size in range(21)],
                           [0, 1, 2, 2, 3, 3, 3, 4, 4, 4, 4, 4, 5, 5, 5, 5, 5, 5, 5, 5, 6])
        for size in range(1001):
            due = max(height for height in range(19) if LEAST[height] <= size)
            self.assertExactly(height_bound(size), due)
        self.assertExactly((height_bound(400), height_bound(985), height_bound(986), height_bound(1000)),
                           (12, 13, 14, 14))

    def test_the_examples_of_the_document(self):
        self.assertExactly([least_seats(height) for height in [0, 1, 2, 3, 4]], [0, 1, 2, 4, 7])
        self.assertExactly((height_bound(3), height_bound(7), height_bound(0)), (2, 4, 0))


if __name__ == "__main__":
    unittest.main()
