"""Points 30, 33 and 34, and 5, 7 and 8 as far as they speak of tours.py."""

import random
import unittest

from keptjoined.plaintours import linked, parted, tour_houses, tour_lines, turned
from keptjoined.tours import arc_seat, house_seat, plant, start_house, tie_up, turn, untie
from keptjoined.yards import Yard
from tests.helpers import NO_NAMES, KeptTest, yard_state

# No row numbers; some equal a row number, but are no integers.
NO_ROWS = [-1, 99, True, False, 1.0, 0.0, None, "0", "", [], (), (0,), {}, object()]


def house(name):
    return "house", name


def arc(line, start, stop):
    return "arc", line, start, stop


def yard_of(houses, lines=()):
    """A yard with these houses planted and these lines tied up, in this order."""
    yard = Yard()
    for name in houses:
        plant(yard, name)
    for line, a, b in lines:
        tie_up(yard, line, a, b)
    return yard


def keys(yard, row):
    return [seat[0] for seat in yard.listed(row)]


def small_yard():
    """Three tours: b - a - c with the lines p and q, d - e with r, and f."""
    return yard_of("abcdef", [("p", "a", "b"), ("q", "a", "c"), ("r", "e", "d")])


def arc_first_yard():
    """A yard in which the tour of b and c begins with the arc seat from b to c."""
    yard = yard_of("abcd", [("p", "a", "b"), ("q", "b", "c"), ("r", "a", "d")])
    untie(yard, "p", "a", "b")
    return yard


class SeatsTest(KeptTest):
    def test_seats(self):
        self.assertExactly(house_seat("a"), (("house", "a"), 1, None, None))
        self.assertExactly(arc_seat("l", "a", "b"), (("arc", "l", "a", "b"), 0, None, None))
        self.assertExactly(arc_seat("l", "b", "a"), (("arc", "l", "b", "a"), 0, None, None))
        # Nothing is checked: not even that the two houses differ.
        self.assertExactly(arc_seat("l", "a", "a"), (("arc", "l", "a", "a"), 0, None, None))


class PlantTest(KeptTest):
    def test_plant(self):
        yard = Yard()
        for at, name in enumerate(["b", "a", "c"]):
            row = plant(yard, name)
            self.assertExactly(yard.listed(row), [(("house", name), 1, None, None)])
            self.assertExactly(yard.row_of(house(name)), row)
            self.assertExactly((len(yard), yard.cuts, yard.splices), (at + 1, 0, 0))

    def test_no_bound_on_houses(self):
        yard = yard_of(["h%d" % at for at in range(60)])
        self.assertExactly(len(yard), 60)

    def test_errors(self):
        yard = small_yard()
        before = yard_state(yard)
        for word in NO_NAMES:
            self.assertRefused("BadName", [word], plant, yard, word)
        for word in "abcdef":
            self.assertRefused("Taken", [word], plant, yard, word)
        self.assertExactly(yard_state(yard), before)
        # The name of a line is free for a house.
        row = plant(yard, "p")
        self.assertExactly(keys(yard, row), [house("p")])


class TurnTest(KeptTest):
    def test_at_place_0(self):
        yard = yard_of("ab")
        for name in "ab":
            before = yard_state(yard)
            self.assertExactly(turn(yard, name), yard.row_of(house(name)))
            self.assertExactly(yard_state(yard), before)

    def test_one_cut_and_one_splice(self):
        yard = yard_of("ab", [("p", "a", "b")])
        self.assertExactly((yard.cuts, yard.splices), (0, 3))
        row = turn(yard, "b")
        self.assertExactly(keys(yard, row), [house("b"), arc("p", "b", "a"), house("a"), arc("p", "a", "b")])
        self.assertExactly((yard.cuts, yard.splices, len(yard)), (1, 4, 1))
        self.assertExactly(turn(yard, "b"), row)
        self.assertExactly((yard.cuts, yard.splices), (1, 4))

    def test_a_tour_that_starts_at_the_house_by_an_arc_key(self):
        yard = arc_first_yard()
        row = yard.row_of(house("b"))
        self.assertExactly(keys(yard, row)[0], arc("q", "b", "c"))
        self.assertExactly(start_house(yard, row), "b")
        cuts, splices = yard.cuts, yard.splices
        row = turn(yard, "b")
        self.assertExactly(keys(yard, row), [house("b"), arc("q", "b", "c"), house("c"), arc("q", "c", "b")])
        self.assertExactly((yard.cuts, yard.splices), (cuts + 1, splices + 1))

    def test_errors(self):
        yard = small_yard()
        before = yard_state(yard)
        for word in NO_NAMES:
            self.assertRefused("BadName", [word], turn, yard, word)
        for word in ["p", "q", "r", "g", "house", "arc"]:
            self.assertRefused("NoHouse", [word], turn, yard, word)
        self.assertExactly(yard_state(yard), before)


class TieTest(KeptTest):
    def test_the_order_of_the_ends(self):
        for a, b in [("a", "b"), ("b", "a")]:
            yard = yard_of("abc")
            row = tie_up(yard, "l", a, b)
            self.assertExactly(yard.listed(row), [house_seat(a), arc_seat("l", a, b), house_seat(b), arc_seat("l", b, a)])
            self.assertExactly((yard.cuts, yard.splices, len(yard)), (0, 3, 2))

    def test_both_tours_are_turned(self):
        for a, b, turns in [("a", "e", 0), ("a", "d", 1), ("b", "e", 1), ("b", "d", 2), ("f", "c", 1), ("c", "f", 1)]:
            yard = small_yard()
            cuts, splices = yard.cuts, yard.splices
            first, second = (keys(yard, yard.row_of(house(name))) for name in (a, b))
            row = tie_up(yard, "n", a, b)
            self.assertExactly(keys(yard, row), linked(first, second, "n", a, b))
            self.assertExactly((yard.cuts - cuts, yard.splices - splices), (turns, 3 + turns))
            self.assertExactly(len(yard), 2)

    def test_errors(self):
        yard = small_yard()
        before = yard_state(yard)
        for word in NO_NAMES:
            self.assertRefused("BadName", [word], tie_up, yard, word, "a", "f")
            self.assertRefused("BadName", [word], tie_up, yard, "n", word, "f")
            self.assertRefused("BadName", [word], tie_up, yard, "n", "a", word)
        for code, word, given in [
                ("BadName", "N", ("N", "A", "B")), ("BadName", "A", ("n", "A", "B")), ("BadName", "B", ("n", "z", "B")),
                ("BadName", "N", ("N", "z", "z")), ("NoHouse", "y", ("n", "y", "z")), ("NoHouse", "z", ("n", "a", "z")),
                ("NoHouse", "z", ("n", "z", "a")), ("NoHouse", "z", ("p", "z", "z")), ("SelfLine", "n", ("n", "a", "a")),
                ("SelfLine", "p", ("p", "a", "a")), ("Taken", "p", ("p", "a", "b")), ("Taken", "p", ("p", "b", "a")),
                ("Taken", "r", ("r", "d", "e")), ("Taken", "r", ("r", "e", "d")), ("SamePart", "n", ("n", "a", "b")),
                ("SamePart", "n", ("n", "c", "b")), ("SamePart", "d", ("d", "d", "e")), ("NoHouse", "p", ("n", "p", "a"))]:
            self.assertRefused(code, [word], tie_up, yard, *given)
            self.assertExactly(yard_state(yard), before)

    def test_an_old_name(self):
        yard = small_yard()
        untie(yard, "p", "a", "b")
        row = tie_up(yard, "p", "f", "b")
        self.assertExactly(keys(yard, row), [house("f"), arc("p", "f", "b"), house("b"), arc("p", "b", "f")])


class UntieTest(KeptTest):
    def test_the_rows_that_are_returned(self):
        for a, b in [("a", "b"), ("b", "a")]:
            yard = small_yard()
            cuts, splices = yard.cuts, yard.splices
            got = untie(yard, "p", a, b)
            self.assertExactly(got, (yard.row_of(house(a)), yard.row_of(house(b))))
            self.assertExactly(keys(yard, yard.row_of(house("b"))), [house("b")])
            self.assertExactly(tour_houses(keys(yard, yard.row_of(house("a")))), ["a", "c"])
            self.assertExactly((yard.cuts - cuts, yard.splices - splices), (4, 1))
            self.assertExactly(len(yard), 4)
            self.assertIs(arc("p", "a", "b") in yard or arc("p", "b", "a") in yard, False)

    def test_arc_seats_at_the_ends_of_the_row(self):
        # The tour that begins with the house seat of b ends with the arc seat from a to b.
        yard = yard_of("ab", [("p", "b", "a")])
        first, second = untie(yard, "p", "a", "b")
        self.assertExactly((keys(yard, first), keys(yard, second)), ([house("a")], [house("b")]))
        # A tour whose first seat is an arc seat of the line that goes.
        yard = arc_first_yard()
        tour = keys(yard, yard.row_of(house("b")))
        self.assertExactly(tour[0], arc("q", "b", "c"))
        outer, inner = parted(tour, "q")
        got = untie(yard, "q", "b", "c")
        self.assertExactly([keys(yard, row) for row in got], [outer, inner])
        self.assertExactly(outer, [house("b")])

    def test_errors(self):
        yard = small_yard()
        before = yard_state(yard)
        for word in NO_NAMES:
            self.assertRefused("BadName", [word], untie, yard, word, "a", "b")
            self.assertRefused("BadName", [word], untie, yard, "p", word, "b")
            self.assertRefused("BadName", [word], untie, yard, "p", "a", word)
        for code, word, given in [
                ("BadName", "N", ("N", "A", "B")), ("BadName", "A", ("n", "A", "B")), ("BadName", "B", ("n", "z", "B")),
                ("NoHouse", "y", ("n", "y", "z")), ("NoHouse", "z", ("p", "a", "z")), ("NoHouse", "z", ("p", "z", "z")),
                ("SelfLine", "p", ("p", "a", "a")), ("SelfLine", "n", ("n", "f", "f")), ("NoLine", "n", ("n", "a", "b")),
                ("NoLine", "p", ("p", "a", "c")), ("NoLine", "p", ("p", "d", "e")), ("NoLine", "q", ("q", "b", "c")),
                ("NoLine", "r", ("r", "e", "f")), ("NoLine", "p", ("p", "c", "b"))]:
            self.assertRefused(code, [word], untie, yard, *given)
            self.assertExactly(yard_state(yard), before)
        untie(yard, "p", "a", "b")
        self.assertRefused("NoLine", ["p"], untie, yard, "p", "a", "b")


class StartTest(KeptTest):
    def test_start_house(self):
        yard = yard_of("abc", [("p", "c", "b"), ("q", "b", "a")])
        self.assertExactly(start_house(yard, yard.row_of(house("a"))), "b")
        self.assertExactly(start_house(yard, turn(yard, "c")), "c")
        untie(yard, "p", "c", "b")
        self.assertExactly(start_house(yard, yard.row_of(house("c"))), "c")
        self.assertExactly(start_house(yard, yard.row_of(house("b"))), keys(yard, yard.row_of(house("b")))[0][-2])

    def test_no_row(self):
        yard = yard_of("ab")
        for number in NO_ROWS:
            self.assertRefused("NoRow", [number], start_house, yard, number)
        old = yard.row_of(house("a"))
        new = tie_up(yard, "l", "b", "a")
        self.assertRefused("NoRow", [old], start_house, yard, old)
        self.assertExactly(start_house(yard, new), "b")


class RunTest(KeptTest):
    """Long runs against tours that the functions of point 32 give; all seats have weights and marks of their own."""

    def compare(self, yard, tours, told):
        self.assertExactly(sorted(yard.listed(row) for row in yard.row_numbers()),
                           sorted([(key, *told[key]) for key in tour] for tour in tours))

    def ornament(self, source, yard, told, fresh):
        """Give new seats, and now and then an old one, other weights and marks."""
        for key in fresh:
            told[key] = (1 if key[0] == "house" else 0, None, None)
        for key in fresh + [source.choice(list(told))]:
            if source.randrange(3):
                told[key] = (source.randrange(1000), source.choice([None, "t", "s1"]), source.choice([None, "u", "v2"]))
                yard.mark(key, tie=told[key][1], spare=told[key][2])
                yard.weigh(key, told[key][0])

    def test_long_runs(self):
        for seed in range(12):
            source = random.Random(seed)
            yard = Yard()
            tours, told, lines = [], {}, {}
            for step in range(150):
                cuts, splices = yard.cuts, yard.splices
                names = [key[1] for key in told if key[0] == "house"]
                kind = source.randrange(10)
                if len(names) < 2 or (kind == 0 and len(names) < 12):
                    name = "h%d" % step
                    row = plant(yard, name)
                    tours.append([house(name)])
                    due, fresh = (0, 0), [house(name)]
                    self.assertExactly(keys(yard, row), [house(name)])
                elif kind < 3:
                    name = source.choice(names)
                    due, fresh = self.turn_one(yard, tours, name), []
                elif kind < 8 and len(tours) > 1:
                    first, second = source.sample(tours, 2)
                    a, b = source.choice(tour_houses(first)), source.choice(tour_houses(second))
                    line = "l%d" % source.randrange(20)
                    if line in lines:
                        continue
                    turns = (first[0] != house(a)) + (second[0] != house(b))
                    row = tie_up(yard, line, a, b)
                    lines[line] = (a, b)
                    tours = [tour for tour in tours if tour not in (first, second)] + [linked(first, second, line, a, b)]
                    due, fresh = (turns, turns + 3), [arc(line, a, b), arc(line, b, a)]
                    self.assertExactly(keys(yard, row), tours[-1])
                elif lines:
                    line = source.choice(list(lines))
                    a, b = source.sample(lines.pop(line), 2)
                    tour = [tour for tour in tours if line in tour_lines(tour)][0]
                    got = untie(yard, line, a, b)
                    outer, inner = parted(tour, line)
                    tours = [other for other in tours if other != tour] + [outer, inner]
                    del told[arc(line, a, b)], told[arc(line, b, a)]
                    due, fresh = (4, 1), []
                    self.assertExactly([keys(yard, row) for row in got],
                                       [outer, inner] if house(a) in outer else [inner, outer])
                else:
                    continue
                self.assertExactly((yard.cuts - cuts, yard.splices - splices), due)
                self.ornament(source, yard, told, fresh)
                self.compare(yard, tours, told)

    def turn_one(self, yard, tours, name):
        """Turn a tour in the yard and in the list; returns the cuts and splices that are due."""
        at = [at for at, tour in enumerate(tours) if house(name) in tour][0]
        old = yard.row_of(house(name))
        row = turn(yard, name)
        still = tours[at][0] == house(name)
        tours[at] = turned(tours[at], name)
        self.assertExactly(keys(yard, row), tours[at])
        self.assertExactly(start_house(yard, row), name)
        self.assertIs(row == old, still)
        return (0, 0) if still else (1, 1)


if __name__ == "__main__":
    unittest.main()
