"""Points 23 to 29, and 7 as far as it speaks of yards."""

import random
import unittest

from keptjoined.errors import KeptError
from keptjoined.shapes import height_bound, is_balanced, shape_height, shape_keys
from keptjoined.yards import Yard
from tests.helpers import KeptTest
from tests.helpers import yard_state as state

# No row numbers of a yard with the rows 0 and 1, and no places; some equal 0 or 1, but are no integers.
NO_INTEGERS = [True, False, 1.0, 0.0, None, "0", "1", "", [], [0], (), (1,), {}, object()]


def seat(name, weight=0, tie=None, spare=None):
    return (name,), weight, tie, spare


def seats(names):
    return [seat(name) for name in names]


def names(yard, row):
    return "".join(key[0] for key, _, _, _ in yard.listed(row))


def least(marks):
    return min([mark for mark in marks if mark is not None], default=None)


def summed(chosen):
    """What stretch and the sums of a row are to give for these seats."""
    return sum(one[1] for one in chosen), least([one[2] for one in chosen]), least([one[3] for one in chosen])


def shapes(yard):
    return {row: yard.shape(row) for row in yard.row_numbers()}


class PlainYard:
    """Rows as plain lists, changed by the rules of points 24 and 29."""

    def __init__(self):
        self.rows = {}
        self.made = 0
        self.cuts = 0
        self.splices = 0

    def make(self, row=()):
        self.rows[self.made] = list(row)
        self.made += 1
        return self.made - 1

    def scrap(self, row):
        del self.rows[row]

    def put(self, row, place, one):
        self.rows[row].insert(place, one)

    def drop(self, row, place):
        return self.rows[row].pop(place)

    def cut(self, row, place):
        old = self.rows.pop(row)
        self.cuts += 1
        return self.make(old[:place]), self.make(old[place:])

    def splice(self, left, right):
        self.splices += 1
        return self.make(self.rows.pop(left) + self.rows.pop(right))

    def find(self, key):
        return [(row, place) for row, held in self.rows.items() for place, one in enumerate(held) if one[0] == key][0]

    def mark(self, key, tie=None, spare=None):
        row, place = self.find(key)
        self.rows[row][place] = (key, self.rows[row][place][1], tie, spare)

    def weigh(self, key, weight):
        row, place = self.find(key)
        self.rows[row][place] = (key, weight) + self.rows[row][place][2:]

    def keys(self):
        return [one[0] for held in self.rows.values() for one in held]


class YardTest(KeptTest):
    def compare(self, yard, plain, deeply=True):
        """Every question about the yard has the answer of the plain lists, and each tree is in order."""
        self.assertExactly(yard.row_numbers(), sorted(plain.rows))
        self.assertExactly((len(yard), yard.cuts, yard.splices), (len(plain.rows), plain.cuts, plain.splices))
        for row, held in plain.rows.items():
            self.assertExactly(yard.listed(row), held)
            self.assertExactly(yard.size(row), len(held))
            self.assertExactly((yard.weight(row), yard.least_tie(row), yard.least_spare(row)), summed(held))
            shape = yard.shape(row)
            self.assertIs(type(shape), tuple)
            self.assertTrue(is_balanced(shape))
            self.assertExactly(shape_keys(shape), [one[0] for one in held])
            self.assertExactly(yard.height(row), shape_height(shape))
            self.assertLessEqual(yard.height(row), height_bound(len(held)))
            if deeply:
                for place, one in enumerate(held):
                    self.assertExactly(yard.at(row, place), one)
                    self.assertExactly((yard.row_of(one[0]), yard.place_of(one[0])), (row, place))
                    self.assertIs(one[0] in yard, True)

    def compare_stretches(self, yard, row, held):
        for start in range(len(held) + 1):
            for stop in range(start, len(held) + 1):
                self.assertExactly(yard.stretch(row, start, stop), summed(held[start:stop]))


class RowsTest(YardTest):
    def test_a_new_yard(self):
        yard = Yard()
        self.assertExactly((len(yard), yard.row_numbers(), yard.cuts, yard.splices), (0, [], 0, 0))
        self.assertIs(("a",) in yard, False)

    def test_make(self):
        yard = Yard()
        held = [(("house", "a"), 1, None, "q"), (("arc", "l", "a", "b"), 0, "l", None), (("x", "y", "z"), 999, "k", "p")]
        self.assertExactly(yard.make(held), 0)
        self.assertExactly(yard.make(), 1)
        self.assertExactly(yard.make([]), 2)
        self.assertExactly(yard.make(tuple(seats("cab"))), 3)
        self.assertExactly(yard.listed(0), held)
        self.assertExactly((yard.size(0), yard.weight(0), yard.least_tie(0), yard.least_spare(0)), (3, 1000, "k", "p"))
        self.assertExactly(yard.listed(1), [])
        self.assertExactly(yard.listed(3), seats("cab"))
        self.assertExactly(yard.row_numbers(), [0, 1, 2, 3])

    def test_an_empty_row(self):
        yard = Yard()
        row = yard.make()
        self.assertExactly((yard.listed(row), yard.size(row), yard.weight(row), yard.height(row), yard.shape(row)),
                           ([], 0, 0, 0, ()))
        self.assertExactly((yard.least_tie(row), yard.least_spare(row), yard.stretch(row, 0, 0)),
                           (None, None, (0, None, None)))
        self.assertExactly(len(yard), 1)
        self.assertExactly(yard.cut(row, 0), (1, 2))
        self.assertExactly((yard.listed(1), yard.listed(2), yard.cuts), ([], [], 1))
        self.assertExactly(yard.splice(2, 1), 3)
        self.assertExactly((yard.listed(3), yard.splices, yard.row_numbers()), ([], 1, [3]))
        self.assertIs(yard.put(3, 0, seat("a", 5, "t", "s")), None)
        self.assertExactly(yard.listed(3), [(("a",), 5, "t", "s")])
        self.assertExactly(yard.drop(3, 0), (("a",), 5, "t", "s"))
        self.assertExactly((yard.row_numbers(), yard.listed(3)), ([3], []))
        self.assertIs(yard.scrap(3), None)
        self.assertExactly(yard.row_numbers(), [])

    def test_the_example_of_the_document(self):
        yard = Yard()
        row = yard.make([(("a",), 1, None, "q"), (("b",), 2, "p", None)])
        left, right = yard.cut(row, 1)
        both = yard.splice(right, left)
        self.assertExactly((left, right, both, yard.weight(both), yard.least_spare(both), yard.place_of(("a",))),
                           (1, 2, 3, 3, "q", 1))

    def test_put_at_each_place(self):
        for size in range(9):
            for place in range(size + 1):
                yard = Yard()
                row = yard.make(seats("abcdefgh"[:size]))
                self.assertIs(yard.put(row, place, seat("z", 7, "t", "s")), None)
                due = seats("abcdefgh"[:size])
                due.insert(place, seat("z", 7, "t", "s"))
                self.assertExactly(yard.listed(row), due)
                self.assertExactly((yard.row_of(("z",)), yard.place_of(("z",))), (row, place))
                self.assertExactly((yard.row_numbers(), yard.cuts, yard.splices), ([0], 0, 0))

    def test_drop_at_each_place(self):
        for size in range(1, 10):
            for place in range(size):
                yard = Yard()
                due = [seat(name, at, "t%d" % at, "s%d" % at) for at, name in enumerate("abcdefghi"[:size])]
                row = yard.make(due)
                self.assertExactly(yard.drop(row, place), due.pop(place))
                self.assertExactly(yard.listed(row), due)
                self.assertIs(("abcdefghi"[place],) in yard, False)
                self.assertExactly((yard.row_numbers(), yard.cuts, yard.splices), ([0], 0, 0))

    def test_cut_and_splice_at_each_place(self):
        for size in range(10):
            for place in range(size + 1):
                yard = Yard()
                held = [seat(name, at, "t%d" % at, "s%d" % (9 - at)) for at, name in enumerate("abcdefghi"[:size])]
                row = yard.make(held)
                self.assertExactly(yard.cut(row, place), (1, 2))
                self.assertExactly((yard.listed(1), yard.listed(2)), (held[:place], held[place:]))
                self.assertExactly((yard.row_numbers(), yard.cuts, yard.splices), ([1, 2], 1, 0))
                self.assertExactly(yard.splice(2, 1), 3)
                self.assertExactly(yard.listed(3), held[place:] + held[:place])
                self.assertExactly((yard.row_numbers(), yard.cuts, yard.splices), ([3], 1, 1))
                for at, one in enumerate(held[place:] + held[:place]):
                    self.assertExactly((yard.row_of(one[0]), yard.place_of(one[0])), (3, at))

    def test_splice_with_empty_rows(self):
        yard = Yard()
        row = yard.make(seats("ab"))
        empty = yard.make()
        row = yard.splice(row, empty)
        self.assertExactly((row, names(yard, row)), (2, "ab"))
        row = yard.splice(yard.make(), row)
        self.assertExactly((row, names(yard, row)), (4, "ab"))
        self.assertExactly((yard.row_numbers(), yard.splices, yard.cuts), ([4], 2, 0))
        self.assertExactly((yard.row_of(("a",)), yard.row_of(("b",))), (4, 4))

    def test_numbers_are_never_used_again(self):
        yard = Yard()
        self.assertExactly(yard.make(seats("ab")), 0)
        yard.scrap(0)
        self.assertExactly(yard.make(seats("ab")), 1)
        self.assertExactly(yard.cut(1, 1), (2, 3))
        yard.scrap(3)
        self.assertExactly(yard.make(seats("b")), 4)
        self.assertExactly(yard.splice(2, 4), 5)
        self.assertExactly(yard.make(), 6)
        self.assertExactly(yard.row_numbers(), [5, 6])
        for row in [0, 1, 2, 3, 4]:
            self.assertRefused("NoRow", [row], yard.listed, row)

    def test_put_drop_mark_and_weigh_keep_the_number(self):
        yard = Yard()
        yard.make(seats("x"))
        row = yard.make(seats("abc"))
        yard.put(row, 0, seat("d"))
        yard.drop(row, 2)
        yard.mark(("a",), tie="t")
        yard.weigh(("a",), 5)
        self.assertExactly((yard.row_numbers(), names(yard, row), yard.make()), ([0, 1], "dac", 2))

    def test_keys_may_be_used_again(self):
        yard = Yard()
        row = yard.make([seat("a", 3, "t", "s"), seat("b")])
        self.assertExactly(yard.drop(row, 0), seat("a", 3, "t", "s"))
        yard.put(row, 1, seat("a"))
        self.assertExactly(yard.listed(row), seats("ba"))
        yard.scrap(row)
        self.assertIs(("a",) in yard or ("b",) in yard, False)
        for key in [("a",), ("b",)]:
            self.assertRefused("NoSeat", [key], yard.row_of, key)
        again = yard.make([seat("b", 1), seat("a", 2)])
        self.assertExactly((names(yard, again), yard.row_of(("a",)), yard.weight(again)), ("ba", 1, 3))

    def test_scrap_removes_one_row_alone(self):
        yard = Yard()
        first, second = yard.make(seats("abc")), yard.make(seats("def"))
        self.assertIs(yard.scrap(first), None)
        self.assertExactly((yard.row_numbers(), names(yard, second), len(yard)), ([1], "def", 1))
        self.assertExactly((yard.cuts, yard.splices), (0, 0))
        self.assertIs(("a",) in yard, False)
        self.assertIs(("d",) in yard, True)

    def test_in_knows_whole_keys_alone(self):
        yard = Yard()
        yard.make([(("a", "b"), 0, None, None), (("c",), 0, None, None)])
        for key, due in [(("a", "b"), True), (("c",), True), (("a",), False), (("b", "a"), False), (("a", "b", "c"), False),
                         (("b",), False), (("c", ""), False)]:
            self.assertIs(key in yard, due, key)
            if not due:
                self.assertRefused("NoSeat", [key], yard.place_of, key)

    def test_two_yards_side_by_side(self):
        one, two = Yard(), Yard()
        self.assertExactly((one.make(seats("abc")), two.make(seats("cba")), two.make()), (0, 0, 1))
        one.cut(0, 1)
        one.mark(("a",), tie="t")
        one.weigh(("b",), 9)
        before = state(one)
        self.assertExactly((names(two, 0), two.cuts, two.least_tie(0), two.weight(0)), ("cba", 0, None, 0))
        two.splice(0, 1)
        two.put(2, 0, seat("d"))
        two.drop(2, 1)
        two.mark(("a",), spare="s")
        self.assertExactly(state(one), before)
        self.assertIs(("d",) in one, False)
        self.assertExactly((two.row_numbers(), names(two, 2), two.splices), ([2], "dba", 1))

    def test_what_is_passed_and_returned(self):
        yard = Yard()
        held = seats("abc")
        row = yard.make(held)
        self.assertExactly(held, seats("abc"))
        before = state(yard)
        held.append(seat("d"))
        held.clear()
        yard.listed(row).clear()
        yard.listed(row).append(seat("z"))
        yard.row_numbers().append(7)
        self.assertExactly(state(yard), before)
        self.assertIs(type(yard.listed(row)), list)
        self.assertIs(type(yard.listed(row)[0]), tuple)


class MarksTest(YardTest):
    def test_mark_sets_both_marks(self):
        yard = Yard()
        row = yard.make([seat("a", 1, "t1", "s1"), seat("b", 2, "t2", "s2"), seat("c", 3)])
        self.assertExactly((yard.least_tie(row), yard.least_spare(row)), ("t1", "s1"))
        self.assertIs(yard.mark(("a",), tie="t3", spare="s3"), None)
        self.assertExactly((yard.least_tie(row), yard.least_spare(row)), ("t2", "s2"))
        self.assertExactly(yard.at(row, 0), seat("a", 1, "t3", "s3"))
        yard.mark(("b",), tie="t0")
        self.assertExactly(yard.at(row, 1), seat("b", 2, "t0", None))
        self.assertExactly((yard.least_tie(row), yard.least_spare(row)), ("t0", "s3"))
        yard.mark(("a",), spare="s0")
        self.assertExactly(yard.at(row, 0), seat("a", 1, None, "s0"))
        yard.mark(("b",))
        self.assertExactly(yard.at(row, 1), seat("b", 2, None, None))
        self.assertExactly((yard.least_tie(row), yard.least_spare(row)), (None, "s0"))
        yard.mark(("a",), tie=None, spare=None)
        self.assertExactly((yard.least_tie(row), yard.least_spare(row), yard.weight(row)), (None, None, 6))

    def test_marks_are_compared_as_names(self):
        yard = Yard()
        row = yard.make([seat("a", 0, "b", "l10"), seat("b", 0, "aa", "l2"), seat("c", 0, "a9", "l1")])
        self.assertExactly((yard.least_tie(row), yard.least_spare(row)), ("a9", "l1"))
        yard.drop(row, 2)
        self.assertExactly((yard.least_tie(row), yard.least_spare(row)), ("aa", "l10"))

    def test_weigh_sets_the_weight_alone(self):
        yard = Yard()
        row = yard.make([seat("a", 1, "t", "s"), seat("b", 10)])
        self.assertIs(yard.weigh(("a",), 999), None)
        self.assertExactly((yard.weight(row), yard.at(row, 0)), (1009, seat("a", 999, "t", "s")))
        yard.weigh(("b",), 0)
        yard.weigh(("a",), 0)
        self.assertExactly((yard.weight(row), yard.listed(row)), (0, [seat("a", 0, "t", "s"), seat("b", 0)]))

    def test_a_mark_on_each_seat_is_seen_at_the_root(self):
        for size in [1, 2, 3, 7, 12, 20, 33]:
            yard = Yard()
            row = yard.make([(("k", str(at)), at, "m", "m") for at in range(size)])
            shape = yard.shape(row)
            for at in range(size):
                yard.mark(("k", str(at)), tie="a")
                self.assertExactly((yard.least_tie(row), yard.least_spare(row)), ("a", "m" if size > 1 else None))
                self.assertExactly(yard.stretch(row, at, at + 1), (at, "a", None))
                yard.mark(("k", str(at)), spare="a")
                self.assertExactly((yard.least_tie(row), yard.least_spare(row)), ("m" if size > 1 else None, "a"))
                yard.mark(("k", str(at)), tie="m", spare="m")
                self.assertExactly((yard.least_tie(row), yard.least_spare(row)), ("m", "m"))
                yard.weigh(("k", str(at)), at + 100)
                self.assertExactly(yard.weight(row), size * (size - 1) // 2 + 100)
                yard.weigh(("k", str(at)), at)
            self.assertExactly(yard.shape(row), shape)

    def test_seats_that_move_keep_weights_and_marks(self):
        yard = Yard()
        held = [(("k", str(at)), at, "t%02d" % (20 - at), None if at % 3 else "s%02d" % at) for at in range(20)]
        left, right = yard.cut(yard.make(held), 7)
        self.assertExactly((yard.listed(left), yard.listed(right)), (held[:7], held[7:]))
        row = yard.splice(right, left)
        yard.mark(("k", "3"), tie="t")
        yard.weigh(("k", "9"), 500)
        held[3] = (("k", "3"), 3, "t", None)
        held[9] = (("k", "9"), 500, "t11", "s09")
        self.assertExactly(yard.listed(row), held[7:] + held[:7])
        self.assertExactly((yard.weight(row), yard.least_tie(row), yard.least_spare(row)), summed(held))

    def test_stretch(self):
        source = random.Random(11)
        for size in [0, 1, 2, 3, 5, 8, 13, 21]:
            yard = Yard()
            held = [(("k", str(at)), source.randint(0, 999), source.choice([None, "a", "b", "c9", "c"]),
                     source.choice([None, None, "p", "q", "p0"])) for at in range(size)]
            self.compare_stretches(yard, yard.make(held), held)
            other = Yard()
            row = other.make()
            for one in held:
                other.put(row, 0, one)
            self.compare_stretches(other, row, held[::-1])
            before = state(other)
            other.stretch(row, 0, size)
            self.assertExactly(state(other), before)


class RunTest(YardTest):
    """Long runs of calls beside plain lists."""

    def one_call(self, source, yard, plain, fresh):
        rows = sorted(plain.rows)
        kind = source.choice(["make", "put", "put", "put", "drop", "cut", "cut", "splice", "splice", "splice", "mark",
                              "weigh", "scrap"])
        marks = [None, None] + ["m%d" % source.randint(0, 30) for _ in range(4)]
        if kind == "make" or not rows:
            held = [(("n%d" % fresh, str(at)), source.randint(0, 999), source.choice(marks), source.choice(marks))
                    for at in range(source.choice([0, 1, 2, 3, 8]))]
            self.assertExactly(yard.make(held), plain.make(held))
            return
        row = source.choice(rows)
        size = len(plain.rows[row])
        keys = plain.keys()
        if kind == "put":
            one = (("k", str(fresh)), source.randint(0, 999), source.choice(marks), source.choice(marks))
            place = source.choice([0, size, source.randint(0, size)])
            self.assertExactly(yard.put(row, place, one), plain.put(row, place, one))
        elif kind == "drop" and size:
            place = source.choice([0, size - 1, source.randrange(size)])
            self.assertExactly(yard.drop(row, place), plain.drop(row, place))
        elif kind == "cut":
            place = source.choice([0, size, source.randint(0, size), source.randint(0, size)])
            self.assertExactly(yard.cut(row, place), plain.cut(row, place))
        elif kind == "splice" and len(rows) > 1:
            left, right = source.sample(rows, 2)
            self.assertExactly(yard.splice(left, right), plain.splice(left, right))
        elif kind == "mark" and keys:
            key, tie, spare = source.choice(keys), source.choice(marks), source.choice(marks)
            self.assertExactly(yard.mark(key, tie=tie, spare=spare), plain.mark(key, tie, spare))
        elif kind == "weigh" and keys:
            key, weight = source.choice(keys), source.randint(0, 999)
            self.assertExactly(yard.weigh(key, weight), plain.weigh(key, weight))
        elif kind == "scrap" and source.random() < 0.2:
            self.assertExactly(yard.scrap(row), plain.scrap(row))

    def test_each_call_beside_plain_lists(self):
        for seed in range(12):
            source = random.Random(seed)
            yard, plain = Yard(), PlainYard()
            for fresh in range(220):
                if len(plain.keys()) < 380:
                    self.one_call(source, yard, plain, fresh)
                    self.compare(yard, plain, deeply=fresh % 5 == 0)
            for row, held in plain.rows.items():
                if len(held) < 30:
                    self.compare_stretches(yard, row, held)
            for key in [("k", str(fresh)) for fresh in range(220)]:
                self.assertIs(key in yard, key in plain.keys())

    def test_400_seats_put_at_the_end_at_the_front_and_in_the_middle(self):
        for choose in [lambda size: size, lambda size: 0, lambda size: size // 2, lambda size: size // 3]:
            yard, plain = Yard(), PlainYard()
            self.assertExactly(yard.make(), plain.make())
            for at in range(400):
                one = (("k", str(at)), at, "t%d" % (at * 7 % 400), "s%d" % (at * 11 % 400))
                yard.put(0, choose(at), one)
                plain.put(0, choose(at), one)
                self.assertLessEqual(yard.height(0), height_bound(at + 1))
                if at % 20 == 0:
                    self.compare(yard, plain, deeply=False)
            self.compare(yard, plain)
            self.assertLessEqual(yard.height(0), 12)
            for at in range(400, 0, -1):
                self.assertExactly(yard.drop(0, choose(at - 1)), plain.drop(0, choose(at - 1)))
                self.assertLessEqual(yard.height(0), height_bound(at - 1))
                if at % 20 == 0:
                    self.compare(yard, plain, deeply=False)
            self.assertExactly((yard.shape(0), yard.height(0)), ((), 0))

    def test_400_seats_made_cut_and_spliced(self):
        yard, plain = Yard(), PlainYard()
        held = [(("k", str(at)), at, "t%d" % at, None) for at in range(400)]
        row = yard.make(held)
        self.assertExactly(plain.make(held), row)
        self.compare(yard, plain)
        for place in [0, 400, 1, 399, 200, 2, 398, 77, 300, 13]:
            cut = yard.cut(row, place)
            self.assertExactly(plain.cut(row, place), cut)
            self.compare(yard, plain, deeply=False)
            row = yard.splice(cut[1], cut[0])
            self.assertExactly(plain.splice(cut[1], cut[0]), row)
            self.compare(yard, plain, deeply=False)
        self.compare(yard, plain)

    def test_400_rows_of_one_seat_spliced(self):
        yard, plain = Yard(), PlainYard()
        for at in range(400):
            yard.make([(("k", str(at)), 1, None, None)])
            plain.make([(("k", str(at)), 1, None, None)])
        source = random.Random(2)
        while len(plain.rows) > 1:
            left, right = source.sample(sorted(plain.rows), 2)
            row = yard.splice(left, right)
            self.assertExactly(plain.splice(left, right), row)
            self.assertTrue(is_balanced(yard.shape(row)))
            self.assertExactly(yard.height(row), shape_height(yard.shape(row)))
        self.compare(yard, plain)

    def test_cuts_and_splices_of_high_and_low_trees(self):
        for high in [1, 2, 3, 4, 7, 12, 20, 33, 54, 88, 100]:
            for low in [0, 1, 2, 3, 5, 8, 13, 40]:
                for high_first in [True, False]:
                    yard, plain = Yard(), PlainYard()
                    for at, size in enumerate([high, low]):
                        held = [(("k", str(at), str(place)), place, "t%d" % place, "s%d" % place) for place in range(size)]
                        self.assertExactly(yard.make(held), plain.make(held))
                    pair = (0, 1) if high_first else (1, 0)
                    self.assertExactly(yard.splice(*pair), plain.splice(*pair))
                    self.compare(yard, plain, deeply=False)
                    self.assertExactly(yard.cut(2, high // 2), plain.cut(2, high // 2))
                    self.compare(yard, plain)


class TreeStaysTest(YardTest):
    def setUp(self):
        self.yard = Yard()
        source = random.Random(9)
        for row, letter in enumerate("abc"):
            self.yard.make()
            for at in range(25):
                self.yard.put(row, source.randint(0, at), ((letter, str(at)), at, "t", "s"))
        self.yard.make()

    def test_questions_leave_all_as_it_was(self):
        yard = self.yard
        before = state(yard)
        for call, given in [
                (yard.row_numbers, ()), (yard.listed, (0,)), (yard.size, (0,)), (yard.weight, (1,)), (yard.height, (1,)),
                (yard.least_tie, (2,)), (yard.least_spare, (2,)), (yard.shape, (0,)), (yard.at, (0, 0)), (yard.at, (0, 24)),
                (yard.at, (1, 12)), (yard.stretch, (0, 0, 25)), (yard.stretch, (0, 3, 17)), (yard.stretch, (0, 9, 9)),
                (yard.row_of, (("a", "0"),)), (yard.place_of, (("b", "24"),)), (yard.listed, (3,)), (yard.shape, (3,))]:
            one, two = call(*given), call(*given)
            self.assertExactly(one, two)
            self.assertExactly(state(yard), before)
        self.assertIs(("a", "0") in yard, True)
        self.assertExactly((len(yard), yard.cuts, yard.splices), (4, 0, 0))
        self.assertExactly(state(yard), before)

    def test_marks_weights_and_scraps_leave_the_trees(self):
        yard = self.yard
        before = shapes(yard)
        for letter in "abc":
            for at in range(25):
                yard.mark((letter, str(at)), tie="z", spare=None)
                yard.weigh((letter, str(at)), 999 - at)
                self.assertExactly(shapes(yard), before)
        yard.scrap(1)
        yard.scrap(3)
        self.assertExactly(shapes(yard), {0: before[0], 2: before[2]})

    def test_refused_calls_leave_the_trees(self):
        yard = self.yard
        before = state(yard)
        for call, given in [
                (yard.make, ([seat("n"), seat("n")],)), (yard.make, ([seat("n"), (("a", "3"), 0, None, None)],)),
                (yard.put, (0, 0, (("b", "3"), 0, None, None))), (yard.put, (0, 26, seat("n"))), (yard.put, (9, 0, seat("n"))),
                (yard.drop, (0, 25)), (yard.drop, (0, -1)), (yard.drop, (3, 0)), (yard.drop, (9, 0)), (yard.cut, (0, 26)),
                (yard.cut, (0, -1)), (yard.cut, (3, 1)), (yard.cut, (9, 0)), (yard.splice, (0, 0)), (yard.splice, (0, 9)),
                (yard.splice, (9, 0)), (yard.splice, (0, False)), (yard.scrap, (9,)), (yard.mark, (("n",),)),
                (yard.weigh, (("n",), 5)), (yard.stretch, (0, 5, 4)), (yard.at, (0, 25))]:
            with self.assertRaises(KeptError):
                call(*given)
            self.assertExactly(state(yard), before)
        self.assertIs(("n",) in yard, False)
        self.assertExactly(yard.make(seats("n")), 4)


class RefusedTest(YardTest):
    def setUp(self):
        self.yard = Yard()
        self.yard.make(seats("abc"))
        self.yard.make(seats("de"))
        self.yard.make(seats("x"))
        self.yard.scrap(2)
        self.before = state(self.yard)

    def refused(self, code, value, call, *given):
        self.assertRefused(code, [value], call, *given)
        self.assertExactly(state(self.yard), self.before)

    def no_rows(self):
        return NO_INTEGERS + [2, 3, 4, -1, -2, 10 ** 30, -10 ** 30]

    def no_places(self, most):
        return NO_INTEGERS + [-1, -2, most + 1, most + 2, 10 ** 30, -10 ** 30]

    def test_rows_that_do_not_stand(self):
        yard = self.yard
        for row in self.no_rows():
            for call in [yard.scrap, yard.listed, yard.size, yard.weight, yard.height, yard.least_tie, yard.least_spare,
                         yard.shape]:
                self.refused("NoRow", row, call, row)
            for place in [0, -1, 99, None, True]:
                self.refused("NoRow", row, yard.at, row, place)
                self.refused("NoRow", row, yard.drop, row, place)
                self.refused("NoRow", row, yard.cut, row, place)
                self.refused("NoRow", row, yard.put, row, place, seat("n"))
                self.refused("NoRow", row, yard.put, row, place, seat("a"))
                self.refused("NoRow", row, yard.stretch, row, place, 0)
                self.refused("NoRow", row, yard.stretch, row, 0, place)
        self.assertExactly(yard.make(), 3)

    def test_splice(self):
        yard = self.yard
        for row in self.no_rows():
            self.refused("NoRow", row, yard.splice, row, 0)
            self.refused("NoRow", row, yard.splice, 0, row)
            self.refused("NoRow", row, yard.splice, row, row)
            self.refused("NoRow", row, yard.splice, row, 77)
            self.refused("NoRow", 77, yard.splice, 77, row)
        self.refused("NoRow", 0, yard.splice, 0, 0)
        self.refused("NoRow", 1, yard.splice, 1, 1)
        self.assertExactly((yard.make(), yard.splice(1, 0), yard.splices), (3, 4, 1))

    def test_places(self):
        yard = self.yard
        for row, size in [(0, 3), (1, 2)]:
            for place in self.no_places(size - 1):
                self.refused("BadPlace", place, yard.at, row, place)
                self.refused("BadPlace", place, yard.drop, row, place)
            for place in self.no_places(size):
                self.refused("BadPlace", place, yard.cut, row, place)
                self.refused("BadPlace", place, yard.put, row, place, seat("n"))
                self.refused("BadPlace", place, yard.put, row, place, seat("a"))
        self.assertExactly((yard.make(), yard.cuts), (3, 0))

    def test_places_of_an_empty_row(self):
        yard = self.yard
        row = yard.make()
        self.before = state(yard)
        for place in self.no_places(-1):
            self.refused("BadPlace", place, yard.at, row, place)
            self.refused("BadPlace", place, yard.drop, row, place)
        for place in self.no_places(0):
            self.refused("BadPlace", place, yard.cut, row, place)
            self.refused("BadPlace", place, yard.put, row, place, seat("n"))
            self.refused("BadPlace", place, yard.stretch, row, place, 0)
            self.refused("BadPlace", place, yard.stretch, row, 0, place)
        self.refused("BadPlace", 0, yard.at, row, 0)
        self.refused("BadPlace", 0, yard.drop, row, 0)

    def test_stretch(self):
        yard = self.yard
        for start in self.no_places(3):
            for stop in [0, 1, 3, 4, -1, None, True, "x"]:
                self.refused("BadPlace", start, yard.stretch, 0, start, stop)
        for start in [0, 1, 2, 3]:
            for stop in self.no_places(3):
                self.refused("BadPlace", stop, yard.stretch, 0, start, stop)
            for stop in range(start):
                self.refused("BadPlace", stop, yard.stretch, 0, start, stop)
        self.assertExactly([yard.stretch(0, at, at) for at in range(4)], [(0, None, None)] * 4)

    def test_keys_without_a_seat(self):
        yard = self.yard
        for key in [("n",), ("x",), ("a", "b"), ("a", ""), ("b", "a", "c"), ("A",), ("house", "a"), ("arc", "l", "a", "b")]:
            self.refused("NoSeat", key, yard.row_of, key)
            self.refused("NoSeat", key, yard.place_of, key)
            self.refused("NoSeat", key, yard.mark, key)
            self.refused("NoSeat", key, yard.weigh, key, 1)
            self.assertRefused("NoSeat", [key], yard.mark, key, tie="t", spare="s")
            self.assertIs(key in yard, False)

    def test_keys_that_are_taken(self):
        yard = self.yard
        for row, size in [(0, 3), (1, 2)]:
            for place in range(size + 1):
                for name in "abcde":
                    self.refused("SeatTaken", (name,), yard.put, row, place, seat(name, 9, "t", "s"))
        for name in "abcde":
            self.refused("SeatTaken", (name,), yard.make, [seat(name)])
            self.refused("SeatTaken", (name,), yard.make, (seat("n"), seat(name, 5), seat("m")))
        self.assertIs(("n",) in yard or ("m",) in yard, False)
        self.assertExactly(yard.make(seats("nm")), 3)

    def test_the_first_taken_key_of_a_list(self):
        yard = self.yard
        for given, due in [("nmn", "n"), ("nn", "n"), ("nmmn", "m"), ("nmnm", "n"), ("nmna", "n"), ("nman", "a"),
                           ("eda", "e"), ("nmopqn", "n"), ("nmanm", "a"), ("nmnba", "n"), ("xyzx", "x")]:
            self.refused("SeatTaken", (due,), yard.make, seats(given))
        self.refused("SeatTaken", ("n",), yard.make, [seat("n", 1, "t", None), seat("n", 2, None, "s")])
        self.assertExactly((yard.make(seats("nmopqxyz")), names(yard, 3)), (3, "nmopqxyz"))

    def test_no_number_is_used_up(self):
        yard = self.yard
        for _ in range(3):
            self.refused("SeatTaken", ("a",), yard.make, seats("a"))
            self.refused("BadPlace", 4, yard.cut, 0, 4)
            self.refused("NoRow", 0, yard.splice, 0, 0)
            self.refused("NoRow", 8, yard.splice, 1, 8)
        self.assertExactly(yard.cut(0, 3), (3, 4))
        self.assertExactly((yard.cuts, yard.splices), (1, 0))

    def test_good_rows_and_places_are_not_refused(self):
        yard = self.yard
        self.assertExactly([yard.at(0, at)[0] for at in range(3)], [("a",), ("b",), ("c",)])
        self.assertExactly(yard.stretch(0, 3, 3), (0, None, None))
        yard.put(0, 3, seat("n"))
        yard.put(0, 0, seat("m"))
        self.assertExactly(yard.drop(0, 4), seat("n"))
        self.assertExactly(yard.cut(0, 4), (3, 4))
        self.assertExactly(names(yard, 3), "mabc")


if __name__ == "__main__":
    unittest.main()
