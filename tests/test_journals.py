"""Points 68 to 75, and 4 to 8 as far as they speak of journals.py."""

import random
import unittest

from keptjoined.errors import KeptError
from keptjoined.history import History
from keptjoined.journals import (Journal, final_levels, first_bad, joined_spans, ledger, lifetimes, replay,
                                 web_difference)
from keptjoined.log import LoggedStore
from keptjoined.store import Store
from keptjoined.webs import Web
from tests.helpers import (NO_NAMES, Alike, KeptTest, Unlike, joined_by_hand, many_houses, many_lines, parts_by_hand,
                           store_state, web_of)
from tests.references import deed_fault, do, lines_after, moments, random_deeds, told, undoing

NAMES = ["p%d" % at for at in range(12)] + ["a", "b"]

# What is no deed, whatever its names are.
NO_DEEDS = [
    None, True, 0, 4, 1.5, "put", "take", "", b"put", {}, {"put": 1}, {"take", "p"}, object(), Alike("put"), Unlike(),
    (), [], ("put",), ["take"], ("put", "p"), ("put", "p", "a"), ["put", "p", "a"], ("put", "p", "a", "b", "c"),
    ("take", "p", "a"), ["take", "p", "a", "b"], ("take", "p", "a", "b"), ("puts", "p", "a", "b"), ("Put", "p", "a", "b"),
    ("Take", "p"), ("", "p", "a", "b"), ("", "p"), ("p", "a", "b"), (None, "p", "a", "b"), (None, "p"), (0, "p"),
    (True, "p"), (b"take", "p"), (["take"], "p"), (("put",), "p", "a", "b"), ({}, "p"), (Alike("take"), "p"),
    (Alike("put"), "p", "a", "b"), (Unlike(), "p"), [Unlike(), "p", "a", "b"], ("put", "P", "A"), ("take", "P", "Q"),
    ("take", None, None, None), ("put", None), ("put p a b",),
]

# Levels and no numbers of deeds for a journal of three deeds.
NO_COUNTS = [-1, 4, 5, 240, 10 ** 20, -10 ** 20, True, False, 1.0, "1", "", [], [1], (), {}, object()]


def put_rows(lines):
    return [("put", *row) for row in lines]


def full_deeds():
    """96 lines put, and some of them taken and put again, 240 deeds in all, and 96 lines at the end."""
    lines = many_lines(96, many_houses(32))
    deeds = put_rows(lines)
    for row in lines[:72]:
        deeds += [("take", row[0]), ("put", *row)]
    return deeds


class JournalTest(KeptTest):
    def compare(self, journal, houses, deeds):
        """A journal beside the deeds as they were passed."""
        due = [told(deed) for deed in deeds]
        self.assertIs(type(journal), Journal)
        self.assertExactly((journal.houses, journal.deeds, len(journal)), (sorted(houses), due, len(due)))
        self.assertExactly(list(journal), due)
        self.assertExactly([deed for deed in journal], due)

    def refused(self, fault, houses, deeds):
        """Each way to make a journal of these deeds fails, and first_bad tells where."""
        code, value = fault
        self.assertRefused(code, [value], Journal, houses, deeds)
        self.assertRefused(code, [value], Journal, houses, tuple(deeds))


class MakingTest(JournalTest):
    def test_no_deeds(self):
        for journal in [Journal(), Journal([]), Journal((), ()), Journal([], []), Journal(deeds=[])]:
            self.compare(journal, [], [])
            self.assertTrue(journal.web_at() == Web())
            self.assertExactly((journal.inverse(), lifetimes(journal), final_levels(journal)), ([], [], []))
            self.assertExactly(ledger(journal), [(0, 0, 0, 0)])
            self.compare(journal.settled(), [], [])
            self.compare(journal.prefix(0), [], [])
            self.assertRefused("BadNumber", [1], journal.prefix, 1)
            self.assertRefused("NoHouse", ["a"], joined_spans, journal, "a", "a")
        journal = Journal(["b", "a"])
        self.compare(journal, ["a", "b"], [])
        self.assertExactly((joined_spans(journal, "a", "a"), joined_spans(journal, "b", "a")), ([(0, 0)], []))
        self.compare(Journal(["a"]), ["a"], [])

    def test_the_constructor(self):
        self.check_constructor(Journal)

    def test_tuples_and_lists(self):
        deeds = [("put", "p", "b", "a"), ["put", "q", "b", "c"], ["take", "p"], ("put", "p", "c", "a"), ("take", "q")]
        due = [("put", "p", "a", "b"), ("put", "q", "b", "c"), ("take", "p"), ("put", "p", "a", "c"), ("take", "q")]
        for given in [deeds, tuple(deeds), [list(deed) for deed in deeds], [tuple(deed) for deed in deeds]]:
            self.compare(Journal(["c", "a", "b"], given), ["a", "b", "c"], due)
        # A line may have the name of a house.
        self.compare(Journal(["a", "b"], [["put", "a", "b", "a"]]), ["a", "b"], [("put", "a", "a", "b")])

    def test_what_is_passed_is_not_kept(self):
        houses, deeds = ["b", "a"], [["put", "p", "b", "a"], ["take", "p"]]
        journal = Journal(houses, deeds)
        self.assertExactly((houses, deeds), (["b", "a"], [["put", "p", "b", "a"], ["take", "p"]]))
        houses.append("c")
        deeds[0][1] = "q"
        deeds.append(["put", "q", "a", "b"])
        self.compare(journal, ["a", "b"], [("put", "p", "a", "b"), ("take", "p")])
        deed = ["put", "q", "b", "a"]
        grown = journal.with_deed(deed)
        deed[1] = "r"
        self.compare(grown, ["a", "b"], [("put", "p", "a", "b"), ("take", "p"), ("put", "q", "a", "b")])

    def test_what_is_returned_may_be_changed(self):
        deeds = [("put", "p", "a", "b"), ("take", "p"), ("put", "q", "b", "c")]
        journal = Journal(["a", "b", "c"], deeds)
        for found in [journal.houses, journal.deeds, journal.inverse(), journal.web_at().lines, journal.prefix(1).deeds,
                      lifetimes(journal), joined_spans(journal, "a", "b"), ledger(journal), final_levels(journal)]:
            found.append("z")
            found[:1] = []
        self.compare(journal, ["a", "b", "c"], deeds)
        self.assertExactly(journal.web_at().lines, [("q", "b", "c")])
        self.assertExactly(joined_spans(journal, "a", "b"), [(1, 1)])

    def test_houses_come_first(self):
        self.assertRefused("BadName", ["A"], Journal, ["a", "A"], [None])
        self.assertRefused("Taken", ["a"], Journal, ["a", "a"], [("take",)])
        self.assertRefused("TooMany", [32], Journal, many_houses(33), [("take", "p")])

    def test_no_deed(self):
        start = [("put", "p", "a", "b"), ["put", "q", "a", "b"], ("take", "p")]
        for wrong in NO_DEEDS:
            for place in range(4):
                for rest in [[], [("take", "P")], [None]]:
                    self.refused(("BadDeed", place), ["a", "b"], start[:place] + [wrong] + rest)
                journal = Journal(["a", "b"], start[:place])
                self.assertRefused("BadDeed", [place], journal.with_deed, wrong)
                self.compare(journal, ["a", "b"], start[:place])

    def test_no_deed_and_another_error(self):
        for wrong in [("put", "P", "A"), ("take", "P", "a"), ("put", "p", "z", "z", "z"), ("put", "p", "z"), ("take",)]:
            self.refused(("BadDeed", 1), ["a", "b"], [("put", "p", "a", "b"), wrong])
        # What is wrong with an earlier deed comes first, also where a later item is no deed.
        self.refused(("NoLine", "p"), ["a", "b"], [("take", "p"), None])
        self.refused(("BadDeed", 0), ["a", "b"], [None, ("take", "P")])

    def test_each_refusal(self):
        start = [("put", "p", "a", "b"), ("put", "q", "b", "c"), ("take", "q")]
        for deed, code, value in [
                (("put", "P", "A", "B"), "BadName", "P"), (("put", "p", "A", "z"), "BadName", "A"),
                (("put", "p", "z", "B"), "BadName", "B"), (("put", "p", "y", "z"), "NoHouse", "y"),
                (("put", "p", "a", "z"), "NoHouse", "z"), (("put", "p", "z", "z"), "NoHouse", "z"),
                (("put", "p", "a", "a"), "SelfLine", "p"), (("put", "n", "b", "b"), "SelfLine", "n"),
                (("put", "p", "a", "b"), "Taken", "p"), (("put", "p", "c", "b"), "Taken", "p"),
                (("take", "P"), "BadName", "P"), (("take", "n"), "NoLine", "n"), (("take", "q"), "NoLine", "q"),
                (("take", "a"), "NoLine", "a")]:
            journal = Journal(["a", "b", "c"], start)
            for one in [deed, list(deed)]:
                self.assertRefused(code, [value], journal.with_deed, one)
                self.refused((code, value), ["a", "b", "c"], start + [one])
                self.refused((code, value), ["a", "b", "c"], start + [one, None])
            self.compare(journal, ["a", "b", "c"], start)

    def test_no_names(self):
        journal = Journal(["a", "b"], [("put", "p", "a", "b")])
        for word in NO_NAMES:
            for deed in [("put", word, "a", "b"), ("put", "p", word, "a"), ("put", "p", "z", word), ("take", word)]:
                self.assertRefused("BadName", [word], journal.with_deed, deed)
                self.assertRefused("BadName", [word], Journal, ["a", "b"], [deed])
            self.assertRefused("BadName", [word], joined_spans, journal, word, "z")
            self.assertRefused("BadName", [word], joined_spans, journal, "z", word)

    def test_the_most_lines(self):
        houses = many_houses(32)
        deeds = put_rows(many_lines(96, houses))
        journal = Journal(houses, deeds)
        for deed, code, value in [(("put", "n", "h00", "h01"), "TooMany", 96), (("put", "l00", "h00", "h01"), "Taken", "l00"),
                                  (("put", "n", "h00", "h00"), "SelfLine", "n")]:
            self.assertRefused(code, [value], journal.with_deed, deed)
            self.refused((code, value), houses, deeds + [deed])
        self.compare(journal.with_deed(("take", "l95")).with_deed(("put", "n", "h00", "h01")), houses,
                     deeds + [("take", "l95"), ("put", "n", "h00", "h01")])

    def test_the_most_deeds(self):
        houses, deeds = many_houses(32), full_deeds()
        journal = Journal(houses, deeds)
        self.compare(journal, houses, deeds)
        self.assertEqual((len(journal), len(journal.web_at())), (240, 96))
        for deed, code, value in [(("take", "l00"), "TooMany", 240), (("put", "n", "h00", "h01"), "TooMany", 96),
                                  (None, "BadDeed", 240), (("take",), "BadDeed", 240), (("take", "n"), "NoLine", "n"),
                                  (("put", "l00", "h00", "h01"), "Taken", "l00"), (("take", "N"), "BadName", "N"),
                                  (("put", "n", "h00", "x"), "NoHouse", "x"), (("put", "n", "h00", "h00"), "SelfLine", "n")]:
            self.assertRefused(code, [value], journal.with_deed, deed)
            self.refused((code, value), houses, deeds + [deed])
            self.assertExactly(first_bad(houses, deeds + [deed, None]), (240, code))
        self.compare(journal, houses, deeds)
        # With fewer lines a put is refused as the 241st deed alone.
        fewer = deeds[:-1] + [("take", "l72")]
        self.assertEqual(len(fewer), 240)
        self.refused(("TooMany", 240), houses, fewer + [("put", "n", "h00", "h01")])
        self.assertIs(first_bad(houses, deeds), None)

    def test_random_lists(self):
        source = random.Random(69)
        codes = set()
        for seed in range(150):
            houses = many_houses(2 + seed % 5)
            deeds = random_deeds(seed, houses, NAMES, 12)
            spoilt = [None, ("take", source.choice(NAMES)), ("put", source.choice(NAMES), *source.choices(houses, k=2)),
                      ["put", "P", "a", "b"], ("put", "n", source.choice(houses), "z"), ("take", "n")]
            for _ in range(source.randrange(3)):
                deeds[source.randrange(12)] = source.choice(spoilt)
            due, lines = None, []
            for at, deed in enumerate(deeds):
                due = deed_fault(houses, lines, at, deed)
                if due:
                    codes.add(due[0])
                    self.refused(due, houses, deeds)
                    self.assertExactly(first_bad(houses, deeds), (at, due[0]))
                    break
                lines = lines_after(lines, deed)
            if due is None:
                codes.add(None)
                self.compare(Journal(houses, deeds), houses, deeds)
                self.assertIs(first_bad(houses, deeds), None)
        self.assertEqual(codes, {None, "BadDeed", "BadName", "NoHouse", "SelfLine", "Taken", "NoLine"})


class ValueTest(JournalTest):
    def test_equal(self):
        one = Journal(["b", "a"], [["put", "p", "b", "a"]])
        self.assertIs(one == Journal(["a", "b"], [("put", "p", "a", "b")]), True)
        self.assertIs(one != Journal(["a", "b"], [("put", "p", "a", "b")]), False)
        self.assertIs(one == one, True)
        self.assertIs(Journal() == Journal(), True)

    def test_not_equal(self):
        one = Journal(["a", "b"], [("put", "p", "a", "b"), ("put", "q", "a", "b"), ("take", "p")])
        for other in [Journal(["a", "b", "c"], one.deeds), Journal(["a", "b"]), one.prefix(2), Journal(),
                      one.with_deed(("take", "q")), Journal(["a", "b"], [("put", "q", "a", "b")]),
                      Journal(["a", "b"], [("put", "q", "a", "b"), ("put", "p", "a", "b"), ("take", "p")]),
                      Journal(["a", "b"], [("put", "p", "a", "b"), ("put", "q", "a", "b"), ("take", "q")])]:
            self.assertIs(one == other, False)
            self.assertIs(one != other, True)
            self.assertIs(other == one, False)

    def test_other_values(self):
        one = Journal(["a", "b"], [("put", "p", "a", "b")])
        for other in [None, 0, "", [], one.deeds, (one.houses, one.deeds), one.web_at(), Web(["a", "b"]), Store(["a", "b"]),
                      object()]:
            self.assertIs(one == other, False)
            self.assertIs(one != other, True)
        self.assertIs(Journal() == [], False)

    def test_web_at(self):
        for seed in range(6):
            houses = many_houses(3 + seed)
            deeds = random_deeds(seed, houses, NAMES, 40)
            journal = Journal(houses, deeds)
            states = moments(deeds)
            for count, lines in enumerate(states):
                self.assertTrue(journal.web_at(count) == Web(houses, lines))
                self.compare(journal.prefix(count), houses, deeds[:count])
                self.assertTrue(journal.prefix(count) == Journal(houses, deeds[:count]))
            self.assertTrue(journal.web_at() == Web(houses, states[-1]))
            self.assertTrue(journal.web_at(None) == Web(houses, states[-1]))
            self.compare(journal, houses, deeds)

    def test_wrong_counts(self):
        journal = Journal(["a", "b"], [("put", "p", "a", "b"), ("take", "p"), ("put", "p", "a", "b")])
        for number in NO_COUNTS:
            self.assertRefused("BadNumber", [number], journal.web_at, number)
            self.assertRefused("BadNumber", [number], journal.prefix, number)
        self.assertRefused("BadNumber", [None], journal.prefix, None)
        self.assertExactly((journal.web_at(3).lines, len(journal.prefix(3))), ([("p", "a", "b")], 3))

    def test_with_deed(self):
        for seed in range(6):
            houses = many_houses(2 + seed)
            deeds = random_deeds(seed, houses, NAMES, 30)
            journal = Journal(houses)
            for at, deed in enumerate(deeds):
                grown = journal.with_deed(deed)
                self.compare(journal, houses, deeds[:at])
                self.compare(grown, houses, deeds[:at + 1])
                # Two journals that go on from one do not disturb each other.
                self.compare(journal.with_deed(("put", "other", "h00", "h01")), houses,
                             deeds[:at] + [("put", "other", "h00", "h01")])
                journal = grown
            self.assertTrue(journal == Journal(houses, deeds))

    def test_inverse(self):
        journal = Journal(["a", "b", "c"], [("put", "p", "b", "a"), ("put", "q", "b", "c"), ("take", "p"),
                                            ("put", "p", "c", "a"), ("take", "p")])
        self.assertExactly(journal.inverse(), [("put", "p", "a", "c"), ("take", "p"), ("put", "p", "a", "b"), ("take", "q"),
                                               ("take", "p")])
        for seed in range(10):
            houses = many_houses(2 + seed)
            deeds = random_deeds(seed, houses, NAMES, 40)
            journal, store = Journal(houses, deeds), replay(Journal(houses, deeds))
            self.assertExactly(journal.inverse(), undoing(deeds))
            # Done behind the journal they lead back moment by moment.
            for deed, lines in zip(journal.inverse(), moments(deeds)[-2::-1]):
                do(store, deed)
                self.assertExactly(store.lines, lines)
            self.assertExactly((store.lines, len(Journal(houses, deeds + journal.inverse()).web_at())), ([], 0))

    def test_the_inverse_may_be_long(self):
        houses = many_houses(32)
        journal = Journal(houses, full_deeds())
        self.assertExactly(journal.inverse(), undoing(full_deeds()))
        self.assertEqual(len(journal.inverse()), 240)

    def test_settled(self):
        journal = Journal(["a", "b", "c"], [("put", "r", "c", "b"), ("put", "q", "a", "b"), ("take", "r"), ("put", "p", "b", "a")])
        self.compare(journal.settled(), ["a", "b", "c"], [("put", "p", "a", "b"), ("put", "q", "a", "b")])
        for seed in range(8):
            houses = many_houses(2 + seed)
            journal = Journal(houses, random_deeds(seed, houses, NAMES, 30))
            self.compare(journal.settled(), houses, put_rows(journal.web_at().lines))
            self.assertTrue(journal.settled().web_at() == journal.web_at())

    def test_from_web(self):
        web = web_of("c a b", "q c b, p b a, a1 a c")
        self.compare(Journal.from_web(web), ["a", "b", "c"], [("put", "a1", "a", "c"), ("put", "p", "a", "b"), ("put", "q", "b", "c")])
        self.compare(Journal.from_web(Web()), [], [])
        self.assertTrue(Journal.from_web(web).web_at() == web)
        houses = many_houses(32)
        full = Web(houses, many_lines(96, houses))
        self.compare(Journal.from_web(full), houses, put_rows(full.lines))


class StoriesTest(JournalTest):
    """What the functions tell beside stores that do the deeds one by one."""

    def stories(self):
        for seed in range(14):
            houses = many_houses([0, 1, 2, 2, 3, 4, 4, 5, 8, 8, 9, 12, 16, 17][seed])
            deeds = random_deeds(seed, houses, NAMES, [0, 0, 4, 30][min(seed, 3)]) if len(houses) > 1 else []
            yield Journal(houses, deeds), houses, deeds

    def test_replay(self):
        for journal, houses, deeds in self.stories():
            store = Store(houses)
            for deed in deeds:
                do(store, deed)
            made = replay(journal)
            self.assertIs(type(made), Store)
            self.assertExactly(store_state(made), store_state(store))
            self.assertFalse(made is replay(journal))

    def test_lifetimes(self):
        for journal, houses, deeds in self.stories():
            stands = moments(deeds)
            rows = lifetimes(journal)
            self.assertExactly([row[:3] for row in rows], [told(deed)[1:] for deed in deeds if deed[0] == "put"])
            for line, low, high, first, last in rows:
                self.assertEqual(deeds[first - 1][:2], ("put", line))
                for moment in range(first, last + 1):
                    self.assertIn((line, low, high), stands[moment])
                self.assertFalse((line, low, high) in stands[first - 1])
                self.assertTrue(last == len(deeds) or deeds[last] == ("take", line))

    def test_lifetimes_by_hand(self):
        journal = Journal(["a", "b"], [("put", "p", "b", "a"), ("put", "q", "a", "b"), ("take", "p"), ("put", "p", "a", "b"),
                                       ("take", "q"), ("take", "p"), ("put", "q", "b", "a"), ("put", "p", "a", "b")])
        self.assertExactly(lifetimes(journal), [("p", "a", "b", 1, 2), ("q", "a", "b", 2, 4), ("p", "a", "b", 4, 5),
                                                ("q", "a", "b", 7, 8), ("p", "a", "b", 8, 8)])
        self.assertExactly(lifetimes(journal.prefix(1)), [("p", "a", "b", 1, 1)])

    def test_the_example_of_the_document(self):
        journal = Journal(["a", "b"], [("put", "p", "a", "b"), ("take", "p"), ("put", "q", "b", "a")])
        self.assertExactly((lifetimes(journal), joined_spans(journal, "a", "b")),
                           ([("p", "a", "b", 1, 1), ("q", "a", "b", 3, 3)], [(1, 1), (3, 3)]))

    def test_joined_spans(self):
        for journal, houses, deeds in self.stories():
            stands = moments(deeds)
            for a in houses[:9]:
                for b in houses[:9]:
                    here = [at for at, lines in enumerate(stands) if joined_by_hand(houses, lines, a, b)]
                    spans = joined_spans(journal, a, b)
                    self.assertExactly([at for first, last in spans for at in range(first, last + 1)], here)
                    self.assertIsInstance(spans, list)
                    for at, (first, last) in enumerate(spans):
                        self.assertTrue(first <= last and (at == 0 or spans[at - 1][1] + 1 < first))
                        self.assertExactly(spans[at], (first, last))
                self.assertExactly(joined_spans(journal, a, a), [(0, len(deeds))])

    def test_joined_spans_refused(self):
        journal = Journal(["a", "b"], [("put", "p", "a", "b")])
        for a, b, code, value in [("A", "B", "BadName", "A"), ("z", "B", "BadName", "B"), ("y", "z", "NoHouse", "y"),
                                  ("a", "z", "NoHouse", "z"), ("z", "z", "NoHouse", "z"), ("p", "a", "NoHouse", "p")]:
            self.assertRefused(code, [value], joined_spans, journal, a, b)

    def test_ledger_and_final_levels(self):
        risen = 0
        for journal, houses, deeds in self.stories():
            store, rows, seen = Store(houses), [], {}
            for at in range(len(deeds) + 1):
                counts = store.counts()
                rows.append((counts["puts"], counts["takes"], counts["rises"], counts["cuts"] + counts["splices"]))
                seen[at] = {row[0]: row[3] for row in store.table()}
                if at < len(deeds):
                    do(store, deeds[at])
            self.assertExactly(ledger(journal), rows)
            due = [seen[last][line] for line, _, _, _, last in lifetimes(journal)]
            self.assertExactly(final_levels(journal), due)
            self.assertEqual(sum(due), rows[-1][2])
            risen += sum(due)
        self.assertGreater(risen, 10)

    def test_a_level_at_the_last_moment(self):
        # p rises when q is taken, and is then taken and put again.
        deeds = [("put", "p", "a", "b"), ("put", "q", "b", "c"), ("put", "r", "c", "d"), ("take", "q"), ("take", "p"),
                 ("put", "p", "a", "b")]
        self.assertExactly(final_levels(Journal(list("abcd"), deeds)), [1, 0, 0, 0])
        self.assertExactly(final_levels(Journal(list("abcd"), deeds[:4])), [1, 0, 0])
        self.assertExactly(final_levels(Journal(list("abcd"), deeds[:3])), [0, 0, 0])
        self.assertExactly(ledger(Journal(list("abcd"), deeds[:4]))[3:], [(3, 0, 0, 13), (3, 1, 1, 21)])


class FirstBadTest(JournalTest):
    def test_good_lists(self):
        self.assertIs(first_bad([], []), None)
        self.assertIs(first_bad((), ()), None)
        self.assertIs(first_bad(["b", "a"], (["put", "p", "b", "a"], ("take", "p"))), None)

    def test_spoilt_lists(self):
        deeds = [("put", "p", "a", "b"), ("put", "q", "a", "b"), ("take", "p")]
        for at in range(4):
            for wrong in [None, ("take",)]:
                self.assertExactly(first_bad(["a", "b"], deeds[:at] + [wrong] + deeds[at:]), (at, "BadDeed"))
            for wrong, code in [(("put", "P", "a", "b"), "BadName"), (("put", "n", "a", "z"), "NoHouse"),
                                (("put", "n", "a", "a"), "SelfLine"), (("take", "n"), "NoLine")]:
                self.assertExactly(first_bad(["a", "b"], deeds[:at] + [wrong] + deeds[at:]), (at, code))
        self.assertExactly(first_bad(["a", "b"], deeds + [("put", "q", "a", "b")]), (3, "Taken"))
        self.assertExactly(first_bad(["a", "b"], [("take", "p"), None]), (0, "NoLine"))

    def test_bounds(self):
        houses = many_houses(32)
        deeds = put_rows(many_lines(96, houses))
        self.assertExactly(first_bad(houses, deeds + [("put", "n", "h00", "h01")]), (96, "TooMany"))
        self.assertExactly(first_bad(houses, full_deeds() + [("take", "l00")]), (240, "TooMany"))
        self.assertExactly(first_bad(houses, full_deeds() + [["take"]]), (240, "BadDeed"))

    def test_houses(self):
        for deeds in [[], [None], [("take", "p")]]:
            self.assertRefused("BadName", ["A"], first_bad, ["a", "A"], deeds)
            self.assertRefused("Taken", ["a"], first_bad, ["a", "a"], deeds)
            self.assertRefused("TooMany", [32], first_bad, many_houses(33), deeds)

    def test_what_is_passed_stays(self):
        houses, deeds = ["b", "a"], [["put", "p", "b", "a"], ["take", "p"], ["take", "p"]]
        self.assertExactly(first_bad(houses, deeds), (2, "NoLine"))
        self.assertExactly((houses, deeds), (["b", "a"], [["put", "p", "b", "a"], ["take", "p"], ["take", "p"]]))


class DifferenceTest(JournalTest):
    def test_each_list(self):
        first = web_of("a b c d", "p a b, q b c")
        for second, due in [
                (first, ([], [], [], [])),
                (web_of("a b c d", "p a b"), ([("q", "b", "c")], [], [("a", "c"), ("b", "c")], [])),
                (web_of("a b c d", "p a b, q b c, r c d"), ([], [("r", "c", "d")], [], [("a", "d"), ("b", "d"), ("c", "d")])),
                (web_of("a b c d", "p a b, q b c, r a c"), ([], [("r", "a", "c")], [], [])),
                (web_of("a b c d", "p a b, q a c"), ([("q", "b", "c")], [("q", "a", "c")], [], [])),
                (web_of("a b c d", "p a b, n b c"), ([("q", "b", "c")], [("n", "b", "c")], [], [])),
                (web_of("a b c d", "p a b, q c d"), ([("q", "b", "c")], [("q", "c", "d")], [("a", "c"), ("b", "c")],
                                                     [("c", "d")])),
                (web_of("a b c d"), ([("p", "a", "b"), ("q", "b", "c")], [], [("a", "b"), ("a", "c"), ("b", "c")], []))]:
            self.assertExactly(web_difference(first, second), due)
            self.assertExactly(web_difference(second, first), (due[1], due[0], due[3], due[2]))
        self.assertExactly(web_difference(Web(), Web()), ([], [], [], []))

    def test_the_pairs_are_ascending(self):
        first = web_of("a b c d e", "p a d, q d e, r b c")
        pairs = [("a", "d"), ("a", "e"), ("b", "c"), ("d", "e")]
        self.assertExactly(web_difference(first, web_of("a b c d e")), (first.lines, [], pairs, []))
        self.assertExactly(web_difference(web_of("a b c d e"), first), ([], first.lines, [], pairs))

    def test_other_houses(self):
        web = web_of("a b", "p a b")
        for other in [Web(), web_of("a"), web_of("a b c"), web_of("a c"), web_of("b c", "p b c")]:
            self.assertRefused("OtherHouses", [], web_difference, web, other)
            self.assertRefused("OtherHouses", [], web_difference, other, web)

    def test_random_webs(self):
        source = random.Random(75)
        for seed in range(60):
            houses = many_houses(2 + seed % 7)
            webs = [Web(houses, moments(random_deeds(seed % 9, houses, NAMES, 30))[source.randrange(31)]) for _ in range(2)]
            found = []
            for web, other in [webs, webs[::-1]]:
                found.append([row for row in web.lines if row not in other.lines])
                pairs = [[(a, b) for part in parts_by_hand(houses, one.lines) for a in part for b in part if a < b]
                         for one in (web, other)]
                found.append(sorted(pair for pair in pairs[0] if pair not in pairs[1]))
            self.assertExactly(web_difference(*webs), (found[0], found[2], found[1], found[3]))


class KindsTest(JournalTest):
    def test_subclasses(self):
        self.assertTrue(issubclass(History, Store) and issubclass(LoggedStore, Store))

    def test_errors_are_those_of_a_store(self):
        """The deeds that a journal refuses are those that a store with the same lines refuses, with equal errors."""
        source = random.Random(68)
        for seed in range(20):
            houses = many_houses(3)
            deeds = random_deeds(seed, houses, NAMES, 10)
            journal, store = Journal(houses, deeds), replay(Journal(houses, deeds))
            for _ in range(20):
                deed = source.choice([("take", source.choice(NAMES)), ("put", source.choice(NAMES + ["N"]),
                                                                       *source.choices(houses + ["z", "Z"], k=2))])
                due = deed_fault(houses, store.lines, 10, deed)
                if due:
                    self.assertRefused(due[0], [due[1]], journal.with_deed, deed)
                    self.assertRefused(due[0], [due[1]], do, store, deed)
                else:
                    self.assertEqual(len(journal.with_deed(deed)), 11)
        with self.assertRaises(KeptError):
            Journal(["a"], [("put", "p", "a", "a")])


if __name__ == "__main__":
    unittest.main()
