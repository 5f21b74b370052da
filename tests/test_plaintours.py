"""Points 30 to 32, and 5, 7 and 9 as far as they speak of plaintours.py."""

import random
import unittest

from keptjoined.names import is_name
from keptjoined.plaintours import is_tour, linked, parted, tour_houses, tour_lines, turned
from tests.helpers import NO_NAMES, KeptTest


def keys_of(text):
    """The keys of "a, p a b, b, p b a": one word is a house, three are a line with its start and its stop."""
    rows = [tuple(row.split()) for row in text.split(",")]
    return [("house",) + row if len(row) == 1 else ("arc",) + row for row in rows]


CHAIN = keys_of("a, p a b, b, q b c, c, q c b, p b a")
STAR = keys_of("c, p c a, a, p a c, q c b, b, q b c, r c d, d, r d c")
# Two lines that have the names of houses, a house seat that does not stand where the house is met first.
ODD = keys_of("arc, a arc house, b house x1, x1, b x1 house, house, a house arc")


def rolled(keys):
    """The same round walk from each of its keys on."""
    return [keys[at:] + keys[:at] for at in range(len(keys))]


def random_tour(source, houses, lines):
    """A round walk over a random tree of these houses: the seat of a house stands at any of the visits."""
    ends = {house: [] for house in houses}
    for at, line in enumerate(lines):
        start, stop = source.choice(houses[:at + 1]), houses[at + 1]
        ends[start].append((line, stop))

    def walk(house):
        keys = [[("arc", line, house, stop)] + walk(stop) + [("arc", line, stop, house)] for line, stop in ends[house]]
        keys.insert(source.randint(0, len(keys)), [("house", house)])
        return sum(keys, [])

    return source.choice(rolled(walk(houses[0])))


def random_tours(count):
    source = random.Random(31)
    for _ in range(count):
        size = source.randint(1, 8)
        yield random_tour(source, source.sample(["a", "b", "c", "d9", "e", "house", "arc", "z"], size),
                          source.sample(["a", "l", "house", "arc", "p1", "p0", "k", "m"], size - 1))


def is_tour_by_hand(keys):
    """Point 31, condition by condition."""
    for key in keys:
        fits = len(key) == 2 and key[0] == "house" or len(key) == 4 and key[0] == "arc"
        if not fits or not all(is_name(word) for word in key[1:]):
            return False
    houses = [key[1] for key in keys if key[0] == "house"]
    arcs = [key for key in keys if key[0] == "arc"]
    for _, line, start, stop in arcs:
        others = [key for key in arcs if key[1] == line]
        if start == stop or len(others) != 2 or ("arc", line, stop, start) not in others:
            return False
        if start not in houses or stop not in houses:
            return False
    spots = [(key[-2] if key[0] == "arc" else key[1], key[-1]) for key in keys]
    fits = all(stop == start for (_, stop), (start, _) in zip(spots, spots[1:] + spots[:1]))
    return bool(keys) and len(set(keys)) == len(keys) and fits and len(houses) == len({key[1] for key in arcs}) + 1


def spoilt(source, keys):
    """A list of keys with one random change."""
    keys = list(keys)
    at, other = source.randrange(len(keys)), source.randrange(len(keys))
    kind = source.randrange(5)
    if kind == 0:
        del keys[at]
    elif kind == 1:
        keys.insert(other, keys[at])
    elif kind == 2:
        keys[at], keys[other] = keys[other], keys[at]
    else:
        words = list(keys[at])
        words[source.randrange(len(words))] = source.choice(["a", "b", "l", "arc", "house", "A", ""])
        keys[at] = tuple(words)
    return keys


class JudgeTest(KeptTest):
    def refuses(self, text):
        self.assertIs(is_tour(keys_of(text) if isinstance(text, str) else text), False, text)

    def test_tours(self):
        self.assertIs(is_tour([("house", "a")]), True)
        for keys in [CHAIN, STAR, ODD]:
            for tour in rolled(keys):
                self.assertIs(is_tour(tour), True)
                self.assertIs(is_tour(tuple(tour)), True)

    def test_a_tour_of_the_most_houses(self):
        houses = ["h%02d" % at for at in range(32)]
        arcs = ["l%02d h%02d h%02d" % (at, at, at + 1) for at in range(31)]
        back = ["l%02d h%02d h%02d" % (at, at + 1, at) for at in reversed(range(31))]
        steps = [text for pair in zip(houses, arcs) for text in pair] + houses[31:] + back
        self.assertIs(is_tour(keys_of(", ".join(steps))), True)
        self.refuses(", ".join(steps[1:]))

    def test_more_houses_than_a_store_may_have(self):
        # The bounds of point 4 do not restrict a judge.
        keys = [("house", "a")]
        for at in range(40):
            keys = linked(keys, [("house", "b%d" % at)], "l%d" % at, "a", "b%d" % at)
        self.assertIs(is_tour(keys), True)

    def test_no_keys(self):
        self.refuses([])

    def test_keys_of_another_length(self):
        for key in [(), ("house",), ("arc",), ("arc", "a"), ("house", "a", "a"), ("arc", "p", "a"), ("house", "p", "a", "b"),
                    ("arc", "p", "a", "b", "b"), ("house", "a", "", ""), ("a",), ("a", "house"), ("other", "a"), ("", "a")]:
            self.refuses([key])
            self.refuses([("house", "a"), key])
            self.refuses(keys_of("a, p a b, b, p b a") + [key])
        self.refuses([("house", "a"), ("arc", "p", "a", "b", "b"), ("house", "b"), ("arc", "p", "b", "a", "a")])
        self.refuses([("house", "a"), ("way", "p", "a", "b"), ("house", "b"), ("way", "p", "b", "a")])
        self.refuses([("house", "a"), ("house", "p", "a", "b"), ("house", "b"), ("house", "p", "b", "a")])
        self.refuses([("arc", "a")])

    def test_words_that_are_no_names(self):
        for word in [word for word in NO_NAMES if isinstance(word, str)]:
            self.refuses([("house", word)])
            self.refuses([("house", "a"), ("arc", word, "a", "b"), ("house", "b"), ("arc", word, "b", "a")])
            self.refuses([("house", "a"), ("arc", "p", "a", word), ("house", word), ("arc", "p", word, "a")])
            self.refuses([("house", word), ("arc", "p", word, "a"), ("house", "a"), ("arc", "p", "a", word)])

    def test_a_key_twice(self):
        # The walk around a ring has a house too few, so that a second key of one house makes the number right.
        self.refuses("a, p a b, b, q b c, c, r c a, a, r a c, q c b, p b a")
        self.refuses("a, a")
        self.refuses("a, p a b, b, b, p b a")
        self.refuses("a, p a b, p b a, p a b, b, p b a")

    def test_a_line_from_a_house_to_itself(self):
        self.refuses("a, p a a")
        self.refuses("a, p a a, p a a")
        self.refuses("a, p a b, b, q b b, q b b, p b a")

    def test_numbers_of_arc_keys(self):
        # p has three and q has one, and all else is in order.
        self.refuses("a, p a b, b, p b c, c, q c b, p b a")
        self.refuses("a, p a b, b, q b a")
        self.refuses("a, p a b, b")
        self.refuses("a, p a b, b, p b c, c, p c b, p b a")

    def test_arc_keys_that_are_no_reverses(self):
        self.refuses("a, p a b, b, p b c, c, q c b, q b a")
        self.refuses("a, p a b, b, q b c, c, p c b, q b a")
        # Here the pairs of p and q agree in one end each.
        self.refuses("a, p a b, b, q b c, c, q c b, p b c")

    def test_keys_that_do_not_meet(self):
        self.refuses("b, a, p a b, p b a")
        self.refuses("a, b, p a b, p b a")
        self.refuses("a, p a b, p b a, b")
        self.refuses("a, p b a, b, p a b")
        self.refuses("a, b")

    def test_a_house_without_its_key(self):
        self.refuses("a, p a b, p b a")
        self.refuses("p a b, b, p b a")
        self.refuses("p a b, p b a")

    def test_the_number_of_house_keys(self):
        self.refuses("a, p a b, b, q b c, c, r c a, r a c, q c b, p b a")
        self.refuses("a, p a b, b, q b a, q a b, p b a")

    def test_random_tours_and_spoilt_ones(self):
        source = random.Random(5)
        for keys in random_tours(150):
            self.assertIs(is_tour(keys), True)
            for _ in range(20):
                changed = spoilt(source, keys)
                if changed:
                    self.assertIs(is_tour(changed), is_tour_by_hand(changed), changed)
                changed = spoilt(source, changed or keys)
                self.assertIs(is_tour(changed), is_tour_by_hand(changed), changed)

    def test_what_is_judged_stays(self):
        keys = list(STAR)
        is_tour(keys)
        self.assertExactly(keys, STAR)


class TurnTest(KeptTest):
    def test_each_house(self):
        for keys in [[("house", "a")], CHAIN, STAR, ODD] + list(random_tours(60)):
            for tour in rolled(keys):
                held = list(tour)
                for place, key in enumerate(tour):
                    if key[0] == "house":
                        got = turned(tour, key[1])
                        self.assertExactly(got, tour[place:] + tour[:place])
                        self.assertExactly(turned(tuple(tour), key[1]), got)
                        self.assertIs(is_tour(got), True)
                        got.clear()
                        self.assertExactly(tour, held)

    def test_errors(self):
        for word in NO_NAMES:
            self.assertRefused("BadName", [word], turned, CHAIN, word)
        for word in ["d", "p", "q", "house", "arc"]:
            self.assertRefused("NoHouse", [word], turned, CHAIN, word)
        self.assertRefused("NoHouse", ["l"], turned, [("house", "a")], "l")
        self.assertRefused("NoHouse", ["l"], turned, (("house", "a"),), "l")
        self.assertRefused("NoHouse", ["b"], turned, ODD, "b")


class LinkTest(KeptTest):
    def test_the_example_of_the_document(self):
        keys = linked([("house", "a")], [("house", "b")], "l", "a", "b")
        self.assertExactly(keys, [("house", "a"), ("arc", "l", "a", "b"), ("house", "b"), ("arc", "l", "b", "a")])

    def test_each_pair_of_houses(self):
        others = keys_of("r y z, z, r z y, y")
        for first in rolled(CHAIN) + [[("house", "a")]]:
            for second in rolled(others) + [[("house", "y")]]:
                for a in tour_houses(first):
                    for b in tour_houses(second):
                        got = linked(first, second, "n", a, b)
                        at, to = first.index(("house", a)), second.index(("house", b))
                        self.assertExactly(got, first[at:] + first[:at] + [("arc", "n", a, b)]
                                           + second[to:] + second[:to] + [("arc", "n", b, a)])
                        self.assertIs(is_tour(got), True)
                        self.assertExactly(linked(tuple(first), tuple(second), "n", a, b), got)
                        self.assertIs(is_tour(linked(second, first, "n", b, a)), True)

    def test_what_is_passed_stays(self):
        first, second = list(CHAIN), [("house", "z")]
        linked(first, second, "n", "c", "z").clear()
        linked(first, second, "n", "a", "z").clear()
        self.assertExactly((first, second), (CHAIN, [("house", "z")]))


class PartTest(KeptTest):
    def test_small_tours(self):
        self.assertExactly(parted(CHAIN, "p"), ([("house", "a")], keys_of("b, q b c, c, q c b")))
        self.assertExactly(parted(CHAIN, "q"), (keys_of("a, p a b, b, p b a"), [("house", "c")]))
        # Whichever of the two arc keys stands first, what is between them is the inner list.
        self.assertExactly(parted(keys_of("p b a, a, p a b, b"), "p"), ([("house", "b")], [("house", "a")]))
        self.assertExactly(parted(keys_of("p a b, b, p b a, a"), "p"), ([("house", "a")], [("house", "b")]))
        self.assertExactly(parted(keys_of("b, p b a, a, p a b"), "p"), ([("house", "b")], [("house", "a")]))
        self.assertExactly(parted(keys_of("p b a, a, p a b, q b c, c, q c b, b"), "q"),
                           (keys_of("p b a, a, p a b, b"), [("house", "c")]))

    def test_a_line_named_like_a_house(self):
        self.assertExactly(parted(ODD, "a"), ([("house", "arc")], keys_of("b house x1, x1, b x1 house, house")))
        self.assertExactly(parted(ODD, "b"), (keys_of("arc, a arc house, house, a house arc"), [("house", "x1")]))

    def test_each_line(self):
        for keys in [CHAIN, STAR, ODD] + list(random_tours(60)):
            for tour in rolled(keys):
                for line in {key[1] for key in tour if key[0] == "arc"}:
                    first, second = [at for at, key in enumerate(tour) if key[0] == "arc" and key[1] == line]
                    held = list(tour)
                    got = parted(tour, line)
                    self.assertExactly(got, (tour[:first] + tour[second + 1:], tour[first + 1:second]))
                    self.assertIs(is_tour(got[0]) and is_tour(got[1]), True)
                    self.assertExactly(parted(tuple(tour), line), got)
                    got[0].clear()
                    got[1].clear()
                    self.assertExactly(tour, held)

    def test_link_and_part(self):
        for keys in random_tours(40):
            longer = linked(keys, [("house", "new")], "new", keys[-1][-1], "new")
            self.assertExactly(parted(longer, "new"), (turned(keys, keys[-1][-1]), [("house", "new")]))

    def test_errors(self):
        for word in NO_NAMES:
            self.assertRefused("BadName", [word], parted, CHAIN, word)
            self.assertRefused("BadName", [word], parted, [("house", "a")], word)
        for word in ["a", "b", "r", "arc", "house"]:
            self.assertRefused("NoLine", [word], parted, CHAIN, word)
        self.assertRefused("NoLine", ["a"], parted, [("house", "a")], "a")
        self.assertRefused("NoLine", ["house"], parted, ODD, "house")


class NamesTest(KeptTest):
    def test_houses_and_lines(self):
        for keys, houses, lines in [(CHAIN, ["a", "b", "c"], ["p", "q"]), (STAR, ["a", "b", "c", "d"], ["p", "q", "r"]),
                                    (ODD, ["arc", "house", "x1"], ["a", "b"]), ([("house", "z")], ["z"], [])]:
            for tour in rolled(keys):
                for passed in (tour, tuple(tour)):
                    self.assertExactly(tour_houses(passed), houses)
                    self.assertExactly(tour_lines(passed), lines)

    def test_random_tours(self):
        for keys in random_tours(60):
            held = list(keys)
            self.assertExactly(tour_houses(keys), sorted(key[1] for key in keys if key[0] == "house"))
            self.assertExactly(tour_lines(keys), sorted({key[1] for key in keys if key[0] == "arc"}))
            tour_houses(keys).clear()
            tour_lines(keys).clear()
            self.assertExactly(keys, held)


if __name__ == "__main__":
    unittest.main()
