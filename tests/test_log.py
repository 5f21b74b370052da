"""Points 81 to 88, and 4 to 8 as far as they speak of log.py."""

import random
import re
import unittest

from keptjoined.journals import Journal, replay
from keptjoined.log import (LoggedStore, apply_write, compact_log, compact_writes, crash_after, deed_writes, disk_log,
                            mend, new_disk, record_count, record_sum, recover, write_log)
from keptjoined.store import Store
from keptjoined.webs import Web
from tests.helpers import NO_NAMES, Alike, KeptTest, Unlike, many_houses, many_lines, store_state
from tests.references import (NO_LEVELS, REFUSED, REFUSED_WITH_FORESTS, deed_fault, do, lines_after, random_deeds, told)
from tests.test_journals import NO_DEEDS, full_deeds, put_rows
from tests.test_store import REFUSED_BY_STORES

NAMES = ["p%d" % at for at in range(10)] + ["a", "b"]
NAME = "[a-z][a-z0-9]{0,11}"

# A log with all kinds of records, written by hand.
DEEDS = [("put", "p", "a", "b"), ("put", "q", "b", "c"), ("put", "a", "a", "c"), ("take", "q"), ("put", "q", "c", "d")]
BODIES = ["houses a b c d", "put p a b", "put q b c", "put a a c", "take q", "put q c d"]


def sum_by_hand(text):
    """The sum of point 82, as one large number divided once."""
    value = 7 * 131 ** len(text)
    for at, sign in enumerate(reversed(text)):
        value += ord(sign) * 131 ** at
    return value % 99991


def row(at, body):
    return "%s %05d %s\n" % (at, sum_by_hand("%s %s" % (at, body)), body)


def log_of(*bodies):
    return "".join(row(at, body) for at, body in enumerate(bodies))


def body_of(deed):
    return " ".join(told(deed))


def whole(text):
    """The houses, or None, and the deeds and the characters of the whole records at the beginning of a text."""
    houses, deeds, lines, length = None, [], [], 0
    for at, piece in enumerate(text.split("\n")[:-1]):
        found = re.fullmatch("(0|[1-9][0-9]*) ([0-9]{5}) ([a-z0-9 ]+)", piece)
        if not found or found[1] != str(at) or int(found[2]) != sum_by_hand(found[1] + " " + found[3]):
            break
        words = found[3].split(" ")
        if at == 0:
            if not re.fullmatch("houses( %s){0,32}" % NAME, found[3]) or words[1:] != sorted(set(words[1:])):
                break
            houses = words[1:]
        else:
            if not re.fullmatch("put %s %s %s|take %s" % ((NAME,) * 4), found[3]) or words[2:] != sorted(words[2:]):
                break
            if deed_fault(houses, lines, at - 1, words):
                break
            deeds.append(tuple(words))
            lines = lines_after(lines, words)
        length += len(piece) + 1
    return houses, deeds, text[:length]


class LogTest(KeptTest):
    def check(self, text):
        """All functions of a text beside what is found of it by hand; returns the number of whole records."""
        houses, deeds, mended = whole(text)
        self.assertExactly(mend(text), mended)
        self.assertExactly(mend(mended), mended)
        if houses is None:
            self.assertExactly((recover(text), record_count(text)), (None, 0))
            self.assertRefused("NoLog", [], compact_log, text)
            self.assertRefused("NoLog", [], LoggedStore.after_crash, text)
            return 0
        self.assertIs(type(recover(text)), Journal)
        self.assertTrue(recover(text) == Journal(houses, deeds))
        self.assertExactly(record_count(text), len(deeds) + 1)
        self.assertExactly(compact_log(text), write_log(Journal(houses, deeds).settled()))
        return len(deeds) + 1


class SumTest(LogTest):
    def test_the_examples_of_the_document(self):
        self.assertExactly((record_sum(""), record_sum("a"), record_sum("ab")), (7, 1014, 32941))

    def test_other_texts(self):
        source = random.Random(82)
        for count in range(60):
            text = "".join(source.choices("abcz09 {~!\n", k=count))
            self.assertExactly(record_sum(text), sum_by_hand(text))
        self.assertExactly(record_sum("~" * 2000), sum_by_hand("~" * 2000))


class WriteTest(LogTest):
    def test_write_log(self):
        self.assertExactly(write_log(Journal()), "0 01058 houses\n")
        self.assertExactly(write_log(Journal(["b", "a"])), log_of("houses a b"))
        self.assertExactly(write_log(Journal(list("dcab"), DEEDS)), log_of(*BODIES))
        self.assertExactly(write_log(Journal(["a", "b"], [["put", "p", "b", "a"], ["take", "p"]])),
                           log_of("houses a b", "put p a b", "take p"))

    def test_there_and_back(self):
        for seed in range(10):
            houses = many_houses(2 + 3 * seed)
            deeds = random_deeds(seed, houses, NAMES, 20)
            text = log_of("houses " + " ".join(houses), *[body_of(deed) for deed in deeds])
            self.assertExactly(write_log(Journal(houses, deeds)), text)
            self.assertEqual(self.check(text), 21)

    def test_indexes_of_more_digits(self):
        houses = many_houses(32)
        journal = Journal(houses, full_deeds())
        text = log_of("houses " + " ".join(houses), *[body_of(deed) for deed in full_deeds()])
        self.assertExactly(write_log(journal), text)
        self.assertEqual(self.check(text), 241)

    def test_compact_log(self):
        self.assertExactly(compact_log(log_of(*BODIES)), log_of("houses a b c d", "put a a c", "put p a b", "put q c d"))
        self.assertExactly(compact_log(log_of(*BODIES) + "6"), log_of("houses a b c d", "put a a c", "put p a b", "put q c d"))
        self.assertExactly(compact_log(log_of("houses")), log_of("houses"))
        self.assertExactly(compact_log(log_of("houses a b", "put p a b", "take p")), log_of("houses a b"))


class WholeTest(LogTest):
    def test_each_beginning(self):
        text = log_of(*BODIES)
        counts = [self.check(text[:at]) for at in range(len(text) + 1)]
        self.assertEqual((sorted(set(counts)), counts[0], counts[-2], counts[-1]), (list(range(7)), 0, 5, 6))
        # A record without its line feed is not whole.
        self.assertExactly(mend(text[:-1]), text[:text.rindex("5 ")])

    def test_one_character_changed_left_out_or_put_in(self):
        text = log_of(*BODIES)
        for at in range(len(text)):
            due = text[:at].count("\n")
            self.assertEqual(self.check(text[:at] + text[at + 1:]), due)
            for sign in "0a1 \n":
                if sign != text[at]:
                    self.assertEqual(self.check(text[:at] + sign + text[at + 1:]), due)
                    self.assertEqual(self.check(text[:at] + sign + text[at:]), due)
            self.assertEqual(self.check(text[:at] + "~" + text[at + 1:]), due)
        for sign in "0 \n6":
            self.assertEqual(self.check(text + sign), 6)

    def test_records_exchanged_repeated_and_left_out(self):
        rows = log_of(*BODIES).splitlines(keepends=True)
        for at in range(6):
            self.assertEqual(self.check("".join(rows[:at] + rows[at + 1:])), at)
            self.assertEqual(self.check("".join(rows[:at + 1] + rows[at:])), at + 1)
            for other in range(at):
                changed = list(rows)
                changed[at], changed[other] = changed[other], changed[at]
                self.assertEqual(self.check("".join(changed)), other)

    def test_indexes(self):
        first = row(0, "houses a b")
        for wrong in ["01", "00", "2", "0", "-1", "+1", "1.", "", "x", "001", " 1", "1 "]:
            self.assertEqual(self.check(first + row(wrong, "put p a b")), 1)
            self.assertEqual(self.check(first + "%s %05d put p a b\n" % (wrong, sum_by_hand("1 put p a b"))), 1)
        for wrong in ["00", "1", "-0", "+0", "", "x", " 0", "0 "]:
            self.assertEqual(self.check(row(wrong, "houses a b")), 0)
            self.assertEqual(self.check("%s %05d houses a b\n" % (wrong, sum_by_hand("0 houses a b"))), 0)
        self.assertEqual(self.check(first + row(1, "put p a b")), 2)

    def test_sums(self):
        for form in ["0 1058 houses\n", "0 001058 houses\n", "0  1058 houses\n", "0 01059 houses\n", "0 01057 houses\n",
                     "0 +1058 houses\n", "0 houses\n", "0 01058  houses\n", "0 101049 houses\n", "0 0105x houses\n"]:
            self.assertEqual(self.check(form), 0)
        self.assertEqual(self.check("0 01058 houses\n"), 1)
        # A sum is due with all of its five digits, also where zeros lead it.
        for name in ["p%d" % at for at in range(60)]:
            due = "%05d" % sum_by_hand("1 put %s a b" % name)
            self.assertEqual(self.check(row(0, "houses a b") + "1 %s put %s a b\n" % (due, name)), 2)
            if due.lstrip("0") != due:
                self.assertEqual(self.check(row(0, "houses a b") + "1 %s put %s a b\n" % (due.lstrip("0"), name)), 1)

    def test_spaces(self):
        first = row(0, "houses a b")
        for body in ["put  p a b", "put p  a b", "put p a  b", "put p a b ", " put p a b", "put p a b  ", "take  p", "put p a"]:
            self.assertEqual(self.check(first + row(1, body)), 1)
        for body in ["houses  a b", "houses a  b", "houses a b ", " houses a b", "houses ", "houses  "]:
            self.assertEqual(self.check(row(0, body)), 0)
        for wrong in ["0  %05d houses a b\n", " 0 %05d houses a b\n", "0 %05d  houses a b\n", "0 %05d houses a b \n",
                      "0\n%05d houses a b\n", "0 %05d houses a b\n\n", "\n0 %05d houses a b\n"]:
            due = 1 if wrong.endswith("b\n\n") else 0
            self.assertEqual(self.check(wrong % sum_by_hand("0 houses a b")), due)

    def test_houses(self):
        for body in ["houses b a", "houses a a", "houses a b b", "houses a A", "houses 1", "houses a b-", "house a", "houses a,b",
                     "Houses a", "", "a b", "houses " + "a" * 13, "put p a b", "take p", "houses c a b"]:
            self.assertEqual(self.check(row(0, body)), 0)
            self.assertEqual(self.check(row(0, body) + row(1, "put p a b")), 0)
        for count in [0, 1, 31, 32]:
            self.assertEqual(self.check(row(0, " ".join(["houses"] + many_houses(count)))), 1)
        for count in [33, 40]:
            self.assertEqual(self.check(row(0, " ".join(["houses"] + many_houses(count)))), 0)

    def test_deeds(self):
        first = log_of("houses a b c", "put p a b", "put q b c", "take p")
        for body in ["put r b a", "put r b b", "put q a b", "put r a d", "put R a b", "put r A b", "take r", "take p", "take P",
                     "take", "put", "put r", "put r a", "put r a b c", "take q q", "houses a b c", "Put r a b", "", "r a b",
                     "put 1 a b", "take q ", "take a"]:
            self.assertEqual(self.check(first + row(4, body)), 4)
            self.assertEqual(self.check(first + row(4, body) + row(5, "take q")), 4)
        for body in ["put r a b", "put p a b", "put p b c", "take q", "put a a b"]:
            self.assertEqual(self.check(first + row(4, body)), 5)

    def test_the_most_lines_and_deeds(self):
        houses = many_houses(32)
        bodies = ["houses " + " ".join(houses)] + [body_of(deed) for deed in full_deeds()]
        for at, due in [(240, 241), (97, 98)]:
            self.assertEqual(self.check(log_of(*bodies[:at + 1])), due)
        self.assertEqual(self.check(log_of(*bodies) + row(241, "take l00")), 241)
        self.assertEqual(self.check(log_of(*bodies[:97]) + row(97, "put n h00 h01")), 97)
        self.assertEqual(self.check(log_of(*bodies[:97]) + row(97, "take l00") + row(98, "put n h00 h01")), 99)

    def test_other_texts(self):
        for text in ["", "\n", "\n\n", " ", "0", "0 01058 houses", "0 01058 houses\r", "houses\n", "~" * 20000, " \n" * 9000, "0\n",
                     "0 0\n", "0 01058\n", "1 01058 houses\n", "0 01058 houses houses\n"]:
            self.assertEqual(self.check(text), 0)
        self.assertEqual(self.check("0 01058 houses\n" * 3), 1)
        self.assertEqual(self.check("0 01058 houses\n" + "x\n" * 9000), 1)
        self.assertEqual(self.check("0 01058 houses\n\n"), 1)


class LoggedTest(LogTest):
    def compare(self, logged, store, bodies):
        self.assertIs(type(logged), LoggedStore)
        self.assertExactly(store_state(logged), store_state(store))
        self.assertExactly(logged.log_text(), log_of(*bodies))


class LoggedStoreTest(LoggedTest):
    def test_no_deeds(self):
        for logged in [LoggedStore(), LoggedStore([]), LoggedStore(())]:
            self.compare(logged, Store(), ["houses"])
            logged.compact()
            self.compare(logged, Store(), ["houses"])
        self.compare(LoggedStore(["b", "a"]), Store(["a", "b"]), ["houses a b"])

    def test_the_constructor(self):
        self.check_constructor(LoggedStore)
        self.assertTrue(issubclass(LoggedStore, Store))

    def test_changes(self):
        logged = LoggedStore(["a", "b", "c"])
        self.assertExactly(logged.put("p", "b", "a"), (["a"], ["b"]))
        self.assertIs(logged.put("q", "a", "b"), None)
        self.assertIs(logged.take("p"), None)
        self.assertExactly(logged.take("q"), (["a"], ["b"]))
        self.assertExactly(logged.log_text(), log_of("houses a b c", "put p a b", "put q a b", "take p", "take q"))

    def test_each_deed_and_each_refused_one(self):
        source = random.Random(85)
        for seed in range(5):
            houses = many_houses(2 + seed)
            logged, store = LoggedStore(houses), Store(houses)
            bodies = ["houses " + " ".join(houses)]
            for deed in random_deeds(seed, houses, NAMES, 50):
                self.assertExactly(do(logged, deed), do(store, deed))
                bodies.append(body_of(deed))
                self.compare(logged, store, bodies)
                wrong = source.choice([("take", "none"), ("take", "N"), ("put", "N", "a", "b"), ("put", "n", houses[0], "z"),
                                       ("put", "n", houses[0], houses[0]), deed])
                fault = deed_fault(houses, store.lines, 0, wrong)
                if fault:
                    self.assertRefused(fault[0], [fault[1]], do, logged, wrong)
                    self.assertExactly((logged.log_text(), logged.trace()), (log_of(*bodies), store.trace()))

    def test_everything_of_a_store(self):
        logged = LoggedStore(list("abcde"))
        for body in ["p a b", "q b c", "r c d", "s a b", "t a d", "u c d"]:
            logged.put(*body.split())
        logged.take("q")
        before, text = store_state(logged), logged.log_text()
        for method, given, code, value in REFUSED + REFUSED_WITH_FORESTS + REFUSED_BY_STORES:
            self.assertRefused(code, [value], getattr(logged, method), *given)
        for number in NO_LEVELS:
            for method in ["pieces", "tours", "heights"]:
                self.assertRefused("BadNumber", [number], getattr(logged, method), number)
        for word in NO_NAMES:
            for call, given in [(logged.put, (word, "a", "e")), (logged.put, ("n", word, "e")), (logged.put, ("n", "a", word)),
                                (logged.take, (word,)), (logged.part_of, (word,))]:
                self.assertRefused("BadName", [word], call, *given)
            self.assertIs(word in logged, False)
        for word in [Alike("p"), Unlike(), "q", "a"]:
            self.assertIs(word in logged, False)
        self.assertIs("p" in logged, True)
        self.assertExactly((store_state(logged), logged.log_text()), (before, text))

    def test_the_most_deeds(self):
        houses = many_houses(32)
        logged, store = LoggedStore(houses), replay(Journal(houses, full_deeds()))
        for deed in full_deeds():
            do(logged, deed)
        bodies = ["houses " + " ".join(houses)] + [body_of(deed) for deed in full_deeds()]
        for deed, code, value in [
                (("take", "l00"), "TooMany", 240), (("take", "n"), "NoLine", "n"), (("take", "N"), "BadName", "N"),
                (("put", "n", "h00", "h01"), "TooMany", 96), (("put", "l00", "h00", "h01"), "Taken", "l00"),
                (("put", "n", "h00", "h00"), "SelfLine", "n"), (("put", "n", "h00", "z"), "NoHouse", "z"),
                (("put", "n", "h00", "Z"), "BadName", "Z")]:
            self.assertRefused(code, [value], do, logged, deed)
        self.compare(logged, store, bodies)
        # After compact the deeds are counted in the new log.
        logged.compact()
        bodies = bodies[:1] + [body_of(("put", *line)) for line in store.lines]
        self.compare(logged, store, bodies)
        for at in range(72):
            for deed in [("take", "l00"), ("put", "l00", "h00", "h01")]:
                do(logged, deed)
                bodies.append(body_of(deed))
        self.assertExactly(logged.log_text(), log_of(*bodies))
        self.assertRefused("TooMany", [240], logged.take, "l00")
        self.assertRefused("TooMany", [96], logged.put, "n", "h00", "h01")
        self.assertExactly(logged.log_text(), log_of(*bodies))

    def test_a_put_as_the_last_deed(self):
        logged = LoggedStore(many_houses(32))
        for deed in full_deeds()[:-1] + [("take", "l80")]:
            do(logged, deed)
        text = logged.log_text()
        self.assertRefused("TooMany", [240], logged.put, "n", "h00", "h01")
        self.assertExactly((logged.log_text(), "n" in logged), (text, False))

    def test_compact(self):
        logged, store = LoggedStore(list("dcba")), Store(list("abcd"))
        for deed in DEEDS:
            do(logged, deed)
            do(store, deed)
        self.assertIs(logged.compact(), None)
        bodies = ["houses a b c d", "put a a c", "put p a b", "put q c d"]
        self.compare(logged, store, bodies)
        logged.compact()
        self.compare(logged, store, bodies)
        logged.take("a")
        store.take("a")
        self.compare(logged, store, bodies + ["take a"])
        again = LoggedStore.after_crash(logged.log_text())
        self.compare(again, replay(Journal(list("abcd"), put_rows(["a a c".split(), "p a b".split(), "q c d".split()])
                                           + [("take", "a")])), bodies + ["take a"])

    def test_after_crash_of_each_beginning(self):
        for seed in range(3):
            houses = many_houses(4 + seed)
            deeds = random_deeds(seed, houses, NAMES, 25)
            bodies = ["houses " + " ".join(houses)] + [body_of(deed) for deed in deeds]
            text = log_of(*bodies)
            for at in range(len(text) + 1):
                count = text[:at].count("\n")
                if count == 0:
                    self.assertRefused("NoLog", [], LoggedStore.after_crash, text[:at])
                elif text[at - 1] == "\n" or at % 16 == 0:
                    logged = LoggedStore.after_crash(text[:at])
                    store = replay(Journal(houses, deeds[:count - 1]))
                    self.compare(logged, store, bodies[:count])
                    if count < len(bodies):
                        # It goes on from there.
                        self.assertExactly(do(logged, deeds[count - 1]), do(store, deeds[count - 1]))
                        self.compare(logged, store, bodies[:count + 1])

    def test_after_crash_of_other_texts(self):
        for text in ["", "x", "\n", "0 01058 houses", "1 01058 houses\n"]:
            self.assertRefused("NoLog", [], LoggedStore.after_crash, text)
        self.compare(LoggedStore.after_crash("0 01058 houses\nrest\n"), Store(), ["houses"])
        full = log_of("houses " + " ".join(many_houses(32)), *[body_of(deed) for deed in full_deeds()])
        logged = LoggedStore.after_crash(full + row(241, "take l00"))
        self.assertExactly(logged.log_text(), full)
        self.assertRefused("TooMany", [240], logged.take, "l00")


class WritesTest(LogTest):
    def test_apply_write(self):
        for disk in [(0, "one", "two"), (1, "one", "two"), (1, "", ""), (0, "a\n", "")]:
            pointer, first, second = disk
            for write, due in [
                    (("empty", 0), (pointer, "", second)), (("empty", 1), (pointer, first, "")),
                    (("trim", 0, 2), (pointer, first[:2], second)), (("trim", 1, 1), (pointer, first, second[:1])),
                    (("trim", 0, 0), (pointer, "", second)), (("trim", 0, 3), (pointer, first[:3], second)),
                    (("trim", 1, 20000), disk), (("trim", 0, 4), disk), (("add", 0, "x"), (pointer, first + "x", second)),
                    (("add", 1, "\n"), (pointer, first, second + "\n")), (("add", 1, " "), (pointer, first, second + " ")),
                    (("point", 0), (0, first, second)), (("point", 1), (1, first, second))]:
                self.assertExactly(apply_write(disk, write), due)

    def test_new_disk(self):
        self.assertExactly(new_disk(), (0, "0 01058 houses\n", ""))
        self.assertExactly(new_disk(["b", "a"]), (0, log_of("houses a b"), ""))
        self.assertExactly(new_disk(("b", "a")), new_disk(houses=["a", "b"]))
        self.assertRefused("BadName", ["A"], new_disk, ["a", "A"])
        self.assertRefused("Taken", ["a"], new_disk, ["a", "b", "a"])
        self.assertRefused("TooMany", [32], new_disk, many_houses(33))
        self.assertEqual(disk_log(new_disk(many_houses(32))), log_of("houses " + " ".join(many_houses(32))))

    def test_disk_log(self):
        text = log_of(*BODIES)
        for at in range(0, len(text) + 1, 7):
            self.assertExactly(disk_log((0, text[:at], text)), mend(text[:at]))
            self.assertExactly(disk_log((1, text, text[:at])), mend(text[:at]))
        self.assertExactly((disk_log((0, "", text)), disk_log((1, text, "x"))), ("", ""))

    def test_crash_after(self):
        disk, writes = (0, "one", ""), [("add", 1, "x"), ("add", 1, "y"), ("point", 1)]
        for given in [writes, tuple(writes)]:
            self.assertExactly([crash_after(disk, given, count) for count in range(4)],
                               [(0, "one", ""), (0, "one", "x"), (0, "one", "xy"), (1, "one", "xy")])
        for number in [-1, 4, 10 ** 20, True, False, 1.0, None, "1", "", [], [1], (), {}, object()]:
            self.assertRefused("BadNumber", [number], crash_after, disk, writes, number)
        self.assertExactly(crash_after(disk, [], 0), disk)
        self.assertRefused("BadNumber", [1], crash_after, disk, [], 1)
        self.assertExactly((disk, writes), ((0, "one", ""), [("add", 1, "x"), ("add", 1, "y"), ("point", 1)]))

    def crashes(self, disk, writes, due):
        """Wherever the crash comes, the log is the old one, and behind the last write the new one."""
        before = disk_log(disk)
        self.assertExactly([disk_log(crash_after(disk, writes, count)) for count in range(len(writes))], [before] * len(writes))
        self.assertExactly(disk_log(crash_after(disk, writes, len(writes))), due)

    def test_deed_writes(self):
        text = log_of(*BODIES[:3])
        record = row(3, "put a a c")
        adds = [("add", 0, sign) for sign in record]
        for deed in [("put", "a", "a", "c"), ["put", "a", "c", "a"]]:
            self.assertExactly(deed_writes((0, text, "idle"), deed), adds)
            self.assertExactly(deed_writes((1, "idle", text), deed), [("add", 1, sign) for sign in record])
        self.crashes((0, text, "idle"), adds, text + record)

    def test_a_live_slot_that_is_longer_than_its_log(self):
        text = log_of(*BODIES[:3])
        record = row(3, "take p")
        # The beginning of a record, a spoilt record, and one that may not stand there.
        for rest in ["3", record[:-1], "3 00000 take p\n", "\n", row(4, "take p"), "x" * 50, row(3, "take n") + row(4, "take p")]:
            for pointer in range(2):
                disk = (pointer, text + rest, "idle") if pointer == 0 else (pointer, "idle", text + rest)
                writes = deed_writes(disk, ("take", "p"))
                self.assertExactly(writes, [("trim", pointer, len(text))] + [("add", pointer, sign) for sign in record])
                self.crashes(disk, writes, text + record)

    def test_deed_writes_refused(self):
        text = log_of(*BODIES[:3])
        for disk in [(0, text, ""), (1, "", text), (0, text + "rest", "")]:
            for deed, code, value in [
                    (("put", "N", "A", "B"), "BadName", "N"), (("put", "n", "z", "a"), "NoHouse", "z"),
                    (("put", "p", "a", "a"), "SelfLine", "p"), (("put", "p", "c", "d"), "Taken", "p"),
                    (("take", "n"), "NoLine", "n")] + [(wrong, "BadDeed", 2) for wrong in NO_DEEDS]:
                self.assertRefused(code, [value], deed_writes, disk, deed)
        for disk in [(0, "", text), (1, text, "x"), (0, text[1:], text), (1, text, "0 01058 houses")]:
            for deed in [("take", "p"), ("put", "a", "a", "c"), None, ("take", "N"), ()]:
                self.assertRefused("NoLog", [], deed_writes, disk, deed)
            self.assertRefused("NoLog", [], compact_writes, disk)
            self.assertExactly(disk_log(disk), "")

    def test_the_most_lines_and_deeds(self):
        houses = many_houses(32)
        disk = (1, "", write_log(Journal(houses, full_deeds())))
        self.assertRefused("TooMany", [240], deed_writes, disk, ("take", "l00"))
        self.assertRefused("TooMany", [96], deed_writes, disk, ("put", "n", "h00", "h01"))
        self.assertRefused("BadDeed", [240], deed_writes, disk, ("take",))
        disk = (0, write_log(Journal(houses, put_rows(many_lines(96, houses)))), "")
        self.assertRefused("TooMany", [96], deed_writes, disk, ("put", "n", "h00", "h01"))

    def test_compact_writes(self):
        text = log_of(*BODIES)
        short = log_of("houses a b c d", "put a a c", "put p a b", "put q c d")
        for idle in ["", "old", log_of("houses z")]:
            for rest in ["", "6 0", "\n"]:
                disk = (0, text + rest, idle)
                writes = compact_writes(disk)
                self.assertExactly(writes, [("empty", 1)] + [("add", 1, sign) for sign in short] + [("point", 1)])
                self.crashes(disk, writes, short)
                disk = (1, idle, text + rest)
                writes = compact_writes(disk)
                self.assertExactly(writes, [("empty", 0)] + [("add", 0, sign) for sign in short] + [("point", 0)])
                self.crashes(disk, writes, short)

    def test_long_runs(self):
        """Deeds and compactions on a disk, each with a crash before it is done at last."""
        for seed in range(4):
            source = random.Random(seed)
            houses = many_houses(3 + seed)
            disk, lines = new_disk(houses), []
            for at, deed in enumerate(random_deeds(seed, houses, NAMES, 30)):
                writes = deed_writes(disk, deed)
                before = disk_log(disk)
                disk = crash_after(disk, writes, source.randrange(len(writes)))
                self.assertExactly(disk_log(disk), before)
                writes = deed_writes(disk, deed)
                self.crashes(disk, writes, before + row(record_count(before), body_of(deed)))
                disk = crash_after(disk, writes, len(writes))
                lines = lines_after(lines, deed)
                self.assertTrue(recover(disk_log(disk)).web_at() == Web(houses, lines))
                if at % 10 == 9:
                    writes = compact_writes(disk)
                    before = disk_log(disk)
                    disk = crash_after(disk, writes, source.randrange(len(writes)))
                    self.assertExactly(disk_log(disk), before)
                    self.crashes(disk, compact_writes(disk), compact_log(before))
                    disk = crash_after(disk, compact_writes(disk), len(compact_writes(disk)))
                    self.assertTrue(recover(disk_log(disk)) == recover(before).settled())
            self.assertExactly(LoggedStore.after_crash(disk[1 + disk[0]]).log_text(), disk_log(disk))


if __name__ == "__main__":
    unittest.main()
