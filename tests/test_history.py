"""Points 76 to 80, and 4 to 8 as far as they speak of histories."""

import random
import unittest

from keptjoined.history import History
from keptjoined.journals import Journal, replay, web_difference
from keptjoined.store import Store
from keptjoined.webs import Web
from tests.helpers import NO_NAMES, Alike, KeptTest, Unlike, many_houses, many_lines, store_state
from tests.references import (NO_LEVELS, REFUSED, REFUSED_WITH_FORESTS, deed_fault, do, moments, random_deeds, told,
                              undoing)
from tests.test_journals import full_deeds, put_rows
from tests.test_store import REFUSED_BY_STORES

NAMES = ["p%d" % at for at in range(10)] + ["a", "b"]

# What is no number of deeds to be undone or done again.
NO_COUNTS = [0, -1, 241, 10 ** 20, -10 ** 20, True, False, 1.0, None, "1", "", [], [1], (1,), {}, object()]


def history_of(houses, deeds):
    history = History(houses)
    for deed in deeds:
        do(history, deed)
    return history


def state(history):
    """All that can be seen of a history."""
    journal = history.journal()
    return [store_state(history), journal.houses, journal.deeds, history.undone(), history.versions,
            [(history.version(name).houses, history.version(name).deeds) for name in history.versions]]


class Beside:
    """What a history is compared with: a store that does all puts and takes, and lists of deeds kept beside."""

    def __init__(self, houses):
        self.store = Store(houses)
        self.done = []
        self.undone = []
        self.versions = {}

    def deed(self, deed):
        self.done.append(told(deed))
        self.undone = []
        return do(self.store, deed)

    def undo(self, count):
        gone = self.done[-count:]
        self.all(undoing(self.done)[:count])
        del self.done[-count:]
        self.undone[:0] = gone
        return gone

    def redo(self, count):
        again = self.undone[:count]
        self.all(again)
        del self.undone[:count]
        self.done += again
        return again

    def back_to(self, name):
        due = self.versions[name]
        common = max(at for at in range(len(due) + 1) if self.done[:at] == due[:at])
        gone, ahead = len(self.done) - common, due[common:]
        self.all(undoing(self.done)[:gone] + ahead)
        self.done = list(due)
        self.undone = []
        return gone, len(ahead)

    def all(self, deeds):
        for deed in deeds:
            do(self.store, deed)

    def twin(self):
        made = Beside(self.store.houses)
        made.all(self.done)
        made.done, made.undone, made.versions = list(self.done), list(self.undone), dict(self.versions)
        return made


class HistoryTest(KeptTest):
    def compare(self, history, beside):
        """All that can be seen of a history, beside what is kept of it."""
        houses = beside.store.houses
        self.assertIs(type(history), History)
        self.assertExactly(store_state(history), store_state(beside.store))
        self.assertIs(type(history.journal()), Journal)
        self.assertExactly((history.journal().houses, history.journal().deeds), (houses, beside.done))
        self.assertExactly((history.undone(), history.versions), (beside.undone, sorted(beside.versions)))
        for name, deeds in beside.versions.items():
            self.assertTrue(history.version(name) == Journal(houses, deeds))
        self.assertTrue(history.journal().web_at() == history.web())


class SmallTest(HistoryTest):
    def test_no_houses(self):
        for history in [History(), History([]), History(())]:
            self.compare(history, Beside([]))
            self.assertRefused("NothingLeft", [], history.undo)
            self.assertRefused("NothingLeft", [], history.redo)
        self.compare(History(["a"]), Beside(["a"]))

    def test_the_constructor(self):
        self.check_constructor(History)

    def test_is_a_store(self):
        self.assertTrue(issubclass(History, Store))
        self.assertIsInstance(History(["a"]), Store)
        self.assertExactly(History.MOST_VERSIONS, 24)
        self.assertExactly(History(["a"]).MOST_VERSIONS, 24)

    def test_changes(self):
        history = History(["a", "b", "c"])
        self.assertExactly(history.put("p", "b", "a"), (["a"], ["b"]))
        self.assertIs(history.put("q", "a", "b"), None)
        self.assertIs(history.take("p"), None)
        self.assertExactly(history.take("q"), (["a"], ["b"]))
        self.assertExactly(history.journal().deeds, [("put", "p", "a", "b"), ("put", "q", "a", "b"), ("take", "p"), ("take", "q")])

    def test_undo_and_redo(self):
        history = History(["a", "b", "c"])
        for row in [("p", "b", "a"), ("q", "b", "c"), ("r", "c", "a"), ("s", "c", "a")]:
            history.put(*row)
        self.assertExactly(history.undo(), [("put", "s", "a", "c")])
        self.assertExactly(history.undo(2), [("put", "q", "b", "c"), ("put", "r", "a", "c")])
        self.assertExactly(history.undone(), [("put", "q", "b", "c"), ("put", "r", "a", "c"), ("put", "s", "a", "c")])
        self.assertExactly(history.lines, [("p", "a", "b")])
        self.assertExactly(history.redo(), [("put", "q", "b", "c")])
        self.assertExactly(history.undone(), [("put", "r", "a", "c"), ("put", "s", "a", "c")])
        self.assertExactly(history.undo(), [("put", "q", "b", "c")])
        self.assertExactly(history.redo(3), [("put", "q", "b", "c"), ("put", "r", "a", "c"), ("put", "s", "a", "c")])
        self.assertExactly((history.undone(), len(history.journal())), ([], 4))

    def test_an_inverse_is_a_deed(self):
        # The put that takes back a take starts at level 0 again, and all is counted.
        history = history_of(list("abcd"), [("put", "p", "a", "b"), ("put", "q", "b", "c"), ("put", "r", "c", "d"),
                                            ("take", "q"), ("take", "p")])
        history.undo()
        self.assertExactly((history.level_of("p"), history.trace()), (0, [("tie", 0)]))
        self.assertEqual((history.counts()["puts"], history.counts()["takes"]), (4, 2))
        history.undo(3)
        self.assertExactly(history.trace(), [("cut", 0), ("half", 0, "c", 1), ("none", 0)])
        self.assertEqual((history.counts()["puts"], history.counts()["takes"]), (5, 4))

    def test_a_deed_empties_the_undone_ones(self):
        for deed in [("put", "n", "a", "b"), ("take", "p")]:
            history = history_of(["a", "b", "c"], [("put", "p", "a", "b"), ("put", "q", "b", "c")])
            history.undo()
            do(history, deed)
            self.assertExactly(history.undone(), [])
            self.assertRefused("NothingLeft", [], history.redo)

    def test_a_refused_deed_does_not(self):
        history = history_of(["a", "b", "c"], [("put", "p", "a", "b"), ("put", "q", "b", "c")])
        history.undo()
        before = state(history)
        for deed in [("put", "N", "a", "b"), ("put", "n", "a", "z"), ("put", "n", "a", "a"), ("put", "p", "a", "b"),
                     ("take", "N"), ("take", "q")]:
            code, value = deed_fault(["a", "b", "c"], history.lines, 1, deed)
            self.assertRefused(code, [value], do, history, deed)
            self.assertExactly(state(history), before)
        self.assertExactly(history.redo(), [("put", "q", "b", "c")])

    def test_wrong_counts(self):
        history = history_of(["a", "b"], [("put", "p", "a", "b"), ("put", "q", "b", "a"), ("put", "r", "b", "a")])
        history.undo()
        before = state(history)
        for number in NO_COUNTS:
            self.assertRefused("BadNumber", [number], history.undo, number)
            self.assertRefused("BadNumber", [number], history.redo, number)
        for number in [3, 4, 100, 240]:
            self.assertRefused("NothingLeft", [], history.undo, number)
            self.assertRefused("NothingLeft", [], history.redo, number - 1)
        self.assertExactly(state(history), before)
        self.assertExactly((len(history.undo(2)), len(history.redo(3))), (2, 3))
        # An empty history finds a number wrong first.
        self.assertRefused("BadNumber", [241], History().undo, 241)
        self.assertRefused("BadNumber", [0], History().redo, 0)

    def test_the_journal_does_not_change(self):
        history = history_of(["a", "b"], [("put", "p", "a", "b"), ("put", "q", "a", "b")])
        journal = history.journal()
        history.undo()
        history.put("r", "a", "b")
        self.assertExactly(journal.deeds, [("put", "p", "a", "b"), ("put", "q", "a", "b")])
        self.assertExactly(history.journal().deeds, [("put", "p", "a", "b"), ("put", "r", "a", "b")])


class BoundTest(HistoryTest):
    def test_the_most_deeds(self):
        houses = many_houses(32)
        history = history_of(houses, full_deeds())
        self.assertEqual(len(history.journal()), 240)
        before = state(history)
        for deed, code, value in [
                (("take", "l00"), "TooMany", 240), (("take", "n"), "NoLine", "n"), (("take", "N"), "BadName", "N"),
                (("put", "n", "h00", "h01"), "TooMany", 96), (("put", "l00", "h00", "h01"), "Taken", "l00"),
                (("put", "n", "h00", "h00"), "SelfLine", "n"), (("put", "n", "h00", "z"), "NoHouse", "z"),
                (("put", "n", "h00", "Z"), "BadName", "Z")]:
            self.assertRefused(code, [value], do, history, deed)
        self.assertExactly(state(history), before)
        # What was undone makes room.
        self.assertExactly(history.undo(), [("put", "l71", "h09", "h10")])
        self.assertIs(history.put("n", "h00", "h01"), None)
        self.assertRefused("TooMany", [240], history.take, "n")

    def test_a_put_as_the_last_deed(self):
        deeds = full_deeds()[:-1] + [("take", "l80")]
        history = history_of(many_houses(32), deeds)
        self.assertEqual((len(history), len(history.journal())), (94, 240))
        self.assertRefused("TooMany", [240], history.put, "n", "h00", "h01")
        self.assertExactly(history.journal().deeds, deeds)

    def test_all_undone_and_done_again(self):
        houses = many_houses(32)
        history = history_of(houses, full_deeds())
        self.assertExactly(history.undo(240), full_deeds())
        self.assertExactly((history.lines, len(history.journal()), len(history.undone())), ([], 0, 240))
        self.assertExactly(history.redo(240), full_deeds())
        self.assertExactly((len(history), len(history.journal()), history.undone()), (96, 240, []))
        self.assertEqual(history.counts()["puts"] + history.counts()["takes"], 720)

    def test_the_most_lines(self):
        houses = many_houses(32)
        history = history_of(houses, put_rows(many_lines(96, houses)))
        before = state(history)
        self.assertRefused("TooMany", [96], history.put, "n", "h00", "h01")
        self.assertExactly(state(history), before)


class VersionTest(HistoryTest):
    def test_names(self):
        history = history_of(["a", "b"], [("put", "p", "a", "b")])
        self.assertIs(history.name_version("w"), None)
        history.take("p")
        self.assertIs(history.name_version("v"), None)
        self.assertIs(history.name_version("v2"), None)
        # A version may have the name of a house or of a line.
        history.name_version("a")
        history.name_version("p")
        self.assertExactly(history.versions, ["a", "p", "v", "v2", "w"])
        self.assertExactly(history.version("w").deeds, [("put", "p", "a", "b")])
        self.assertExactly(history.version("v").deeds, [("put", "p", "a", "b"), ("take", "p")])
        self.assertTrue(history.version("v") == history.version("v2"))

    def test_refusals(self):
        history = history_of(["a", "b"], [("put", "p", "a", "b")])
        history.name_version("v")
        before = state(history)
        self.assertRefused("Taken", ["v"], history.name_version, "v")
        history.take("p")
        self.assertRefused("Taken", ["v"], history.name_version, "v")
        history.undo()
        for name in ["w", "a", "p"]:
            self.assertRefused("NoVersion", [name], history.version, name)
            self.assertRefused("NoVersion", [name], history.back_to, name)
            self.assertRefused("NoVersion", [name], history.compare, name)
        for word in NO_NAMES + ["V"]:
            self.assertRefused("BadName", [word], history.name_version, word)
            self.assertRefused("BadName", [word], history.version, word)
            self.assertRefused("BadName", [word], history.back_to, word)
            self.assertRefused("BadName", [word], history.compare, word)
            self.assertRefused("BadName", [word], history.compare, word, "V")
            if word is not None:
                self.assertRefused("BadName", [word], history.compare, "v", word)
                self.assertRefused("BadName", [word], history.compare, "w", word)
        self.assertRefused("NoVersion", ["w"], history.compare, "w", "x")
        self.assertRefused("NoVersion", ["x"], history.compare, "v", "x")
        self.assertRefused("NoVersion", ["w"], history.compare, "w", "v")
        self.assertRefused("NoVersion", ["w"], history.compare, "w", None)
        self.assertExactly((history.versions, history.version("v").deeds), (before[4], before[5][0][1]))

    def test_a_refusal_changes_nothing(self):
        history = history_of(["a", "b"], [("put", "p", "a", "b"), ("put", "q", "a", "b")])
        history.name_version("v")
        history.undo()
        before = state(history)
        for call, given in [(history.name_version, ("v",)), (history.name_version, ("V",)), (history.version, ("w",)),
                            (history.back_to, ("w",)), (history.back_to, (None,)), (history.compare, ("v", "w"))]:
            with self.assertRaises(ValueError):
                call(*given)
            self.assertExactly(state(history), before)

    def test_the_most_versions(self):
        history = History(["a", "b"])
        for at in range(24):
            history.name_version("v%d" % at)
        before = state(history)
        self.assertRefused("TooMany", [24], history.name_version, "w")
        self.assertRefused("Taken", ["v3"], history.name_version, "v3")
        self.assertRefused("BadName", ["V"], history.name_version, "V")
        self.assertExactly(state(history), before)
        self.assertEqual(len(history.versions), 24)

    def test_compare(self):
        history = History(["a", "b", "c"])
        history.name_version("none")
        history.put("p", "a", "b")
        history.name_version("one")
        history.put("q", "b", "c")
        history.take("p")
        self.assertExactly(history.compare("none", "one"), ([], [("p", "a", "b")], [], [("a", "b")]))
        self.assertExactly(history.compare("one", "none"), ([("p", "a", "b")], [], [("a", "b")], []))
        self.assertExactly(history.compare("one"), ([("p", "a", "b")], [("q", "b", "c")], [("a", "b")], [("b", "c")]))
        self.assertExactly(history.compare("one", None), history.compare("one"))
        self.assertExactly(history.compare("one", second="one"), ([], [], [], []))

    def test_versions_outlast_an_undo(self):
        history = history_of(["a", "b"], [("put", "p", "a", "b")])
        history.name_version("v")
        history.undo()
        history.put("q", "a", "b")
        self.assertExactly((history.versions, history.version("v").deeds), (["v"], [("put", "p", "a", "b")]))
        history.versions.append("z")
        history.version("v").deeds.append("z")
        self.assertExactly((history.versions, history.version("v").deeds), (["v"], [("put", "p", "a", "b")]))


class BackTest(HistoryTest):
    def test_forth_and_back(self):
        history = history_of(["a", "b", "c"], [("put", "p", "a", "b"), ("put", "q", "b", "c")])
        history.name_version("early")
        history.put("r", "a", "c")
        history.name_version("late")
        self.assertExactly(history.back_to("early"), (1, 0))
        self.assertExactly((history.trace(), history.undone()), ([("spare", 0)], []))
        self.assertExactly(history.back_to("late"), (0, 1))
        history.undo(2)
        history.put("s", "a", "b")
        self.assertExactly(history.back_to("early"), (1, 1))
        self.assertExactly(history.trace(), [("tie", 0)])
        self.assertExactly(history.journal().deeds, [("put", "p", "a", "b"), ("put", "q", "b", "c")])
        self.assertExactly(history.versions, ["early", "late"])

    def test_nothing_to_do(self):
        history = history_of(["a", "b"], [("put", "p", "a", "b"), ("put", "q", "a", "b"), ("take", "p")])
        history.name_version("v")
        trace, counts = history.trace(), history.counts()
        self.assertExactly(history.back_to("v"), (0, 0))
        self.assertExactly((history.trace(), history.counts()), (trace, counts))
        self.assertEqual(trace[-1][0], "found")
        # The undone deeds are gone all the same.
        history.undo()
        history.name_version("w")
        self.assertExactly(history.undone(), [("take", "p")])
        self.assertExactly(history.back_to("w"), (0, 0))
        self.assertExactly(history.undone(), [])

    def test_no_common_beginning(self):
        history = History(["a", "b"])
        history.name_version("empty")
        history.put("p", "a", "b")
        history.put("q", "a", "b")
        history.name_version("v")
        self.assertExactly(history.back_to("empty"), (2, 0))
        self.assertExactly(history.lines, [])
        history.put("q", "a", "b")
        history.put("p", "a", "b")
        # The same lines, but another list of deeds.
        self.assertExactly(history.back_to("v"), (2, 2))
        self.assertExactly((history.back_to("empty"), history.back_to("empty")), ((2, 0), (0, 0)))

    def test_a_deed_that_comes_again_behind_a_difference(self):
        history = history_of(["a", "b"], [("put", "p", "a", "b"), ("put", "q", "a", "b"), ("put", "r", "a", "b")])
        history.name_version("v")
        history.undo(2)
        history.put("s", "a", "b")
        history.put("r", "a", "b")
        self.assertExactly(history.back_to("v"), (2, 2))


class TwinTest(HistoryTest):
    def test_twin(self):
        history = history_of(list("abcd"), [("put", "p", "a", "b"), ("put", "q", "b", "c"), ("put", "r", "c", "d"),
                                            ("take", "q"), ("put", "t", "a", "d")])
        history.name_version("v")
        history.undo(2)
        twin = history.twin()
        self.assertIs(type(twin), History)
        self.assertExactly(store_state(twin), store_state(replay(history.journal())))
        self.assertExactly(twin.undone(), [("take", "q"), ("put", "t", "a", "d")])
        self.assertExactly((twin.versions, twin.version("v").deeds), (["v"], history.version("v").deeds))
        self.assertTrue(twin.journal() == history.journal())

    def test_an_empty_journal(self):
        history = history_of(["a", "b"], [("put", "p", "a", "b")])
        history.undo()
        twin = history.twin()
        self.assertExactly((history.trace()[0], twin.trace()), (("cut", 0), []))
        self.assertExactly((twin.counts()["puts"], twin.undone()), (0, [("put", "p", "a", "b")]))

    def test_later_calls(self):
        for call in [lambda one: one.put("n", "a", "c"), lambda one: one.take("p"), lambda one: one.undo(),
                     lambda one: one.redo(), lambda one: one.name_version("w"), lambda one: one.back_to("v")]:
            for at in range(2):
                history = history_of(["a", "b", "c"], [("put", "p", "a", "b"), ("put", "q", "b", "c")])
                history.name_version("v")
                history.undo()
                pair = [history, history.twin()]
                before = [state(one) for one in pair]
                call(pair[at])
                self.assertExactly(state(pair[1 - at]), before[1 - at])
                self.assertNotEqual(state(pair[at]), before[at])


class StoreMethodsTest(HistoryTest):
    """Everything that a store has, asked of a history."""

    def setUp(self):
        self.history = history_of(list("abcde"), [("put", "p", "a", "b"), ("put", "q", "b", "c"), ("put", "r", "c", "d"),
                                                  ("put", "s", "a", "b"), ("put", "t", "a", "d"), ("put", "u", "c", "d"),
                                                  ("take", "q")])

    def test_each_refusal(self):
        before = state(self.history)
        for method, given, code, value in REFUSED + REFUSED_WITH_FORESTS + REFUSED_BY_STORES:
            self.assertRefused(code, [value], getattr(self.history, method), *given)
        for number in NO_LEVELS:
            for method in ["pieces", "tours", "heights"]:
                self.assertRefused("BadNumber", [number], getattr(self.history, method), number)
        for word in NO_NAMES:
            for call, given in [(self.history.put, (word, "a", "e")), (self.history.put, ("n", word, "e")),
                                (self.history.put, ("n", "a", word)), (self.history.take, (word,))]:
                self.assertRefused("BadName", [word], call, *given)
        self.assertExactly(state(self.history), before)

    def test_in(self):
        for line in "prstu":
            self.assertIs(line in self.history, True)
        for word in NO_NAMES + ["q", "a", "e", ("p",), ["p"], Alike("p"), Unlike()]:
            self.assertIs(word in self.history, False)
        self.assertExactly(len(self.history), 5)

    def test_what_is_returned_may_be_changed(self):
        self.history.undo()
        self.history.name_version("v")
        before = state(self.history)
        for found in [self.history.undone(), self.history.versions, self.history.journal().deeds, self.history.lines,
                      self.history.trace(), *self.history.compare("v")]:
            found.append("z")
            found[:1] = []
        self.assertExactly(state(self.history), before)
        for call in [self.history.redo, self.history.undo]:
            found = call()
            found.append("z")
            found[:1] = []
        self.assertExactly(state(self.history)[1:], before[1:])


class RunTest(HistoryTest):
    def step(self, source, history, beside, houses):
        """One random call on both."""
        kind = source.randrange(20)
        if kind < 9:
            lines = history.lines
            deed = source.choice(random_deeds(source.random(), houses, NAMES, 3))
            if lines and source.randrange(3) == 0:
                deed = ("take", source.choice(lines)[0])
            fault = deed_fault(houses, lines, len(beside.done), deed)
            if fault:
                self.assertRefused(fault[0], [fault[1]], do, history, deed)
            else:
                self.assertExactly(do(history, deed), beside.deed(deed))
        elif kind < 16:
            word, most = ("undo", len(beside.done)) if kind < 13 else ("redo", len(beside.undone))
            count = source.randint(1, 4)
            if count > most:
                self.assertRefused("NothingLeft", [], getattr(history, word), count)
            else:
                self.assertExactly(getattr(history, word)(count), getattr(beside, word)(count))
        elif kind < 18 and len(beside.versions) < 24:
            beside.versions["v%d" % len(beside.versions)] = list(beside.done)
            history.name_version("v%d" % (len(beside.versions) - 1))
        elif beside.versions:
            name = source.choice(sorted(beside.versions))
            self.assertExactly(history.back_to(name), beside.back_to(name))
            other = source.choice(sorted(beside.versions))
            webs = [Web(houses, moments(beside.versions[one])[-1]) for one in (name, other)]
            self.assertExactly(history.compare(name, other), web_difference(*webs))
            self.assertExactly(history.compare(other), web_difference(webs[1], Web(houses, history.lines)))

    def test_long_runs(self):
        for seed in range(6):
            source = random.Random(seed)
            houses = many_houses(2 + seed)
            history, beside = History(houses), Beside(houses)
            for at in range(120):
                self.step(source, history, beside, houses)
                self.compare(history, beside)
                if at % 30 == 29:
                    kept, kept_beside = history, beside
                    history, beside = history.twin(), beside.twin()
                    self.compare(history, beside)
                    for _ in range(5):
                        self.step(source, history, beside, houses)
                    self.compare(kept, kept_beside)

    def test_the_same_answers_after_undo_and_redo(self):
        for seed in range(6):
            houses = many_houses(3 + seed)
            deeds = random_deeds(seed, houses, NAMES, 60)
            history = history_of(houses, deeds)
            stands = moments(deeds)
            for at in range(60, 0, -1):
                history.undo()
                self.assertExactly(history.lines, stands[at - 1])
                self.assertExactly(history.parts(), Store(houses).parts() if at == 1 else replay(Journal(houses, deeds[:at - 1])).parts())
            self.assertExactly(history.undone(), [told(deed) for deed in deeds])
            for at in range(60):
                history.redo()
                self.assertExactly(history.lines, stands[at + 1])
            self.assertExactly(history.undone(), [])


if __name__ == "__main__":
    unittest.main()
