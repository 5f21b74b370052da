"""Points 98, 100 to 102 and 104, and 7 and 8 as far as they speak of books."""

import copy
import random
import unittest
import unittest.mock

from keptjoined.book import Book, audit, compare_books
from keptjoined.bridges import find_bridges
from keptjoined.certificates import answer, is_answer
from keptjoined.errors import KeptError
from keptjoined.history import History
from keptjoined.script import read_book, read_command, write_book
from tests.helpers import KeptTest, many_houses, many_lines

FILL = "count none"


class HandBook:
    """What a book answers, by the words of point 98 and 100, with a history for each store."""

    def __init__(self):
        self.histories = {}
        self.papers = []

    def __call__(self, row):
        try:
            return self.run(*read_command(row))
        except KeptError as error:
            return "refused " + error.code

    def run(self, word, *rest):
        if word == "judge":
            if not 0 < rest[0] <= len(self.papers):
                return "refused NoPaper"
            name, a, b, paper = self.papers[rest[0] - 1]
            return "yes" if is_answer(self.histories[name].web(), a, b, paper) else "no"
        name, *rest = rest
        if word == "store":
            if name in self.histories:
                return "refused Taken"
            made = History(rest)
            if len(self.histories) == 8:
                return "refused TooMany"
            self.histories[name] = made
            return "ok"
        if name not in self.histories:
            return "refused NoStore"
        if word == "copy":
            if rest[0] in self.histories:
                return "refused Taken"
            if len(self.histories) == 8:
                return "refused TooMany"
            self.histories[rest[0]] = self.histories[name].twin()
            return "ok"
        if word == "paper":
            self.papers.append((name, *rest, answer(self.histories[name], *rest)))
            return str(len(self.papers))
        return self.asked(self.histories[name], word, rest)

    def asked(self, history, word, rest):
        if word in ("put", "take"):
            change = getattr(history, word)(*rest)
            said = {"put": "joined", "take": "parted"}[word]
            return "ok" if change is None else " ".join([said, change[0][0], change[1][0]])
        if word in ("undo", "redo", "mark", "back"):
            {"undo": history.undo, "redo": history.redo, "mark": history.name_version, "back": history.back_to}[word](*rest)
            return "ok"
        if word == "joined":
            return {True: "yes", False: "no"}[history.joined(*rest)]
        if word == "way":
            way = history.way(*rest)
            return "none" if way is None else " ".join(step[0] for step in way) or "here"
        if word == "part":
            return " ".join(history.part_of(*rest))
        if word == "size":
            return str(len(history.part_of(*rest)))
        if word == "parts":
            return " / ".join(" ".join(part) for part in history.parts()) or "none"
        if word == "count":
            return str(len(history.parts()))
        if word == "bridges":
            return " ".join(find_bridges(history.web())) or "none"
        if word == "level":
            return str(history.level_of(*rest))
        if word == "compare":
            return "%d %d %d %d" % tuple(map(len, history.compare(*rest)))
        assert word == "check"
        return "sound"


def state(book):
    return copy.deepcopy([book.entries, book.stores, len(book), list(book)])


def random_row(source, names, houses):
    """A row of any command, mostly one that can be done."""
    lines = ["l1", "l2", "l3", "l4", "l5"]
    kinds = {"S": names, "T": names, "L": lines, "A": houses, "B": houses, "V": ["v", "w"], "W": ["v", "w"],
             "N": ["0", "1", "1", "2", "3"], "K": ["0", "1", "2", "3", "9"]}
    forms = ["put S L A B"] * 8 + ["take S L"] * 4 + ["undo S N", "redo S N", "back S V", "mark S V"] * 2
    forms += ["joined S A B", "way S A B", "part S A", "size S A", "parts S", "count S", "bridges S", "level S L", "compare S V W",
              "check S", "paper S A B", "judge K", "copy S T", "store S A B", "paper S A B", "judge K", "way S A", "put S"]
    return " ".join(source.choice(kinds[word]) if word in kinds else word for word in source.choice(forms).split())


class BookTest(KeptTest):
    def run_rows(self, book, pairs):
        """Run rows, each with the answer due."""
        for row, due in pairs:
            self.assertExactly(book(row), due)
            self.assertExactly(book.entries[-1], (row, due))


class CommandsTest(BookTest):
    def test_the_example_of_the_document(self):
        book = Book()
        self.assertExactly(book.run_all(["store s a b", "put s l a b", "way s b a", "take s l", "take s l"]),
                           ["ok", "joined a b", "l", "parted a b", "refused NoLine"])

    def test_an_empty_book(self):
        book = Book()
        self.assertExactly((book.entries, book.stores, len(book), list(book)), ([], [], 0, []))
        self.assertExactly((Book.MOST_ENTRIES, Book.MOST_STORES, book.MOST_ENTRIES), (120, 8, 120))
        self.assertExactly(book.run_all([]), [])
        self.assertExactly(book.run_all(()), [])

    def test_stores_and_questions(self):
        self.run_rows(Book(), [
            ("store s c a b d", "ok"), ("parts s", "a / b / c / d"), ("count s", "4"), ("bridges s", "none"),
            ("put s p b a", "joined a b"), ("put s q c b", "joined a c"), ("put s r a c", "ok"), ("way s c a", "q p"),
            ("way s a c", "p q"), ("way s a d", "none"), ("way s d d", "here"), ("joined s a c", "yes"), ("joined s c d", "no"),
            ("joined s d d", "yes"), ("part s c", "a b c"), ("part s d", "d"), ("size s b", "3"), ("size s d", "1"),
            ("parts s", "a b c / d"), ("count s", "2"), ("bridges s", "none"), ("take s p", "ok"), ("bridges s", "q r"),
            ("take s q", "parted a b"), ("level s r", "0"), ("put s z d c", "joined a d"), ("take s z", "parted a d"),
            ("check s", "sound"), ("store t", "ok"), ("parts t", "none"), ("count t", "0"), ("bridges t", "none"), ("check t", "sound")])

    def test_levels(self):
        book = Book()
        book.run_all(["store s a b c d", "put s p a b", "put s q b c", "put s r c d", "take s q"])
        self.run_rows(book, [("level s p", "1"), ("level s r", "0"), ("level s q", "refused NoLine"), ("check s", "sound")])

    def test_undo_redo_and_versions(self):
        self.run_rows(Book(), [
            ("store s a b c", "ok"), ("mark s v", "ok"), ("put s p a b", "joined a b"), ("put s q b c", "joined a c"), ("mark s w", "ok"),
            ("compare s v w", "0 2 0 3"), ("compare s w v", "2 0 3 0"), ("compare s w w", "0 0 0 0"), ("undo s 2", "ok"),
            ("parts s", "a / b / c"), ("redo s 1", "ok"), ("parts s", "a b / c"), ("redo s 2", "refused NothingLeft"),
            ("undo s 2", "refused NothingLeft"), ("undo s 0", "refused BadNumber"), ("redo s 0", "refused BadNumber"),
            ("undo s 241", "refused BadNumber"), ("redo s 999", "refused BadNumber"), ("back s w", "ok"), ("count s", "1"),
            ("back s v", "ok"), ("count s", "3"), ("redo s 1", "refused NothingLeft"), ("mark s v", "refused Taken"),
            ("back s x", "refused NoVersion"), ("compare s v x", "refused NoVersion"), ("compare s x v", "refused NoVersion")])

    def test_copies(self):
        book = Book()
        self.run_rows(book, [
            ("store s a b", "ok"), ("put s p a b", "joined a b"), ("put s q a b", "ok"), ("take s p", "ok"), ("mark s v", "ok"),
            ("undo s 1", "ok"), ("copy s t", "ok"), ("redo t 1", "ok"), ("bridges t", "q"), ("bridges s", "none"),
            ("put t n a b", "ok"), ("redo s 1", "ok"), ("take s q", "parted a b"), ("joined t a b", "yes"), ("back t v", "ok"),
            ("mark t w", "ok"), ("back s w", "refused NoVersion"), ("joined s a b", "no"), ("copy t u", "ok"), ("joined u a b", "yes")])
        self.assertExactly(book.stores, ["s", "t", "u"])

    def test_each_command_beside_a_history(self):
        """A store that has risen lines, rings and two parts."""
        rows = ["put s p a b", "put s q b c", "put s r c d", "put s t a b", "put s u a d", "take s q", "put s x e f"]
        for a in "abcdefz":
            for b in "aefz":
                book, hand = Book(), HandBook()
                for row in ["store s a b c d e f", "mark s v", *rows, "joined s %s %s" % (a, b), "way s %s %s" % (a, b), "part s " + a,
                            "size s " + a, "parts s", "count s", "bridges s", "level s p", "level s u", "paper s %s %s" % (a, b),
                            "judge 1", "take s x", "judge 1", "check s", "compare s v v", "undo s 3", "judge 1", "back s v"]:
                    self.assertExactly(book(row), hand(row))

    def test_long_runs(self):
        said = set()
        for seed in range(60):
            source = random.Random(seed)
            book, hand = Book(), HandBook()
            rows = ["store s a b c", "store t " + " ".join("abcdefgh")]
            rows += [random_row(source, ["s", "s", "t", "t", "u"], list("abcdz" if seed % 3 else "abcdefgh")) for _ in range(118)]
            twins = []
            for at, row in enumerate(rows):
                due = hand(row)
                said.add(due if due.startswith("refused") else read_command(row)[0])
                self.assertExactly(book(row), due)
                if at == 80:
                    twins = [book.twin(), copy.deepcopy(hand)]
                elif twins:
                    # The twin goes on in the same way, and both are told apart.
                    self.assertExactly(twins[0](row), due)
            self.assertExactly(book.entries, twins[0].entries)
            self.assertExactly([row for row, _ in book.entries], rows)
            self.assertExactly(book.stores, sorted(hand.histories))
            self.assertIs(audit(book.entries), None)
        for word in ["put", "take", "undo", "redo", "back", "mark", "joined", "way", "part", "size", "parts", "count", "bridges",
                     "level", "compare", "check", "paper", "judge", "copy", "store"]:
            self.assertIn(word, said)
        for code in ["NoStore", "NoHouse", "NoLine", "SelfLine", "Taken", "NoVersion", "BadNumber", "NothingLeft", "NoPaper", "BadText"]:
            self.assertIn("refused " + code, said)


class RefusedTest(BookTest):
    def setUp(self):
        self.book = Book()
        self.book.run_all(["store s a b", "put s p a b", "mark s v", "paper s a b"])

    def refused(self, *pairs):
        stores = self.book.stores
        self.run_rows(self.book, [(row, "refused " + code) for row, code in pairs])
        self.assertExactly(self.book.stores, stores)
        self.run_rows(self.book, [("parts s", "a b"), ("bridges s", "p"), ("judge 1", "yes"), ("judge 2", "refused NoPaper"),
                                  ("redo s 1", "refused NothingLeft"), ("mark s v", "refused Taken")])

    def test_texts(self):
        self.refused(("", "BadText"), (" ", "BadText"), ("x", "BadText"), ("put s p a", "BadText"), ("put x P a", "BadText"),
                     ("store", "BadText"), ("store s A", "BadText"), ("copy s S", "BadText"), ("judge 01", "BadText"),
                     ("undo x 01", "BadText"), ("parts s ", "BadText"), ("judge x", "BadText"), ("copy x", "BadText"))

    def test_no_store(self):
        self.refused(*[(row, "NoStore") for row in [
            "put x p z z", "take x q", "joined x z a", "way x z z", "part x z", "size x z", "parts x", "count x", "bridges x", "level x q",
            "undo x 0", "redo x 0", "mark x v", "back x w", "compare x w w", "check x", "paper x z z", "copy x s", "copy x x"]])

    def test_taken(self):
        self.refused(("store s a", "Taken"), ("store s a a", "Taken"), ("copy s s", "Taken"), ("store t a b a", "Taken"),
                     ("store s" + " h" * 40, "Taken"))

    def test_houses_of_a_store(self):
        many = " ".join(many_houses(33))
        self.refused(("store t " + many, "TooMany"), ("store t " + many + " h00", "TooMany"), ("store t a a " + many, "Taken"),
                     ("store t " + " ".join(many_houses(32)) + " h00", "Taken"))
        self.run_rows(self.book, [("store t " + " ".join(many_houses(32)), "ok"), ("count t", "32")])

    def test_what_a_store_refuses(self):
        self.refused(("put s q a z", "NoHouse"), ("put s p z z", "NoHouse"), ("put s q a a", "SelfLine"), ("put s p a b", "Taken"),
                     ("take s q", "NoLine"), ("take s a", "NoLine"), ("joined s a z", "NoHouse"), ("way s z a", "NoHouse"),
                     ("part s p", "NoHouse"), ("size s z", "NoHouse"), ("level s q", "NoLine"), ("undo s 0", "BadNumber"),
                     ("undo s 2", "NothingLeft"), ("redo s 1", "NothingLeft"), ("redo s 0", "BadNumber"), ("mark s v", "Taken"),
                     ("back s w", "NoVersion"), ("compare s v w", "NoVersion"), ("compare s w v", "NoVersion"),
                     ("paper s a z", "NoHouse"), ("paper s z z", "NoHouse"))

    def test_papers(self):
        self.refused(("judge 0", "NoPaper"), ("judge 2", "NoPaper"), ("judge 999", "NoPaper"))

    def test_eight_stores(self):
        self.book.run_all(["store t%d" % at for at in range(6)])
        self.assertEqual(self.book("copy s z"), "ok")
        self.assertExactly(self.book.stores, ["s", "t0", "t1", "t2", "t3", "t4", "t5", "z"])
        self.refused(("store x", "TooMany"), ("copy s x", "TooMany"), ("store x a a", "Taken"), ("store s", "Taken"), ("copy s z", "Taken"),
                     ("copy x y", "NoStore"), ("store x A", "BadText"), ("copy x s", "NoStore"))

    def test_the_bounds_of_a_history(self):
        # 24 versions, and 96 lines.
        book = Book()
        book("store s a b")
        for at in range(24):
            self.assertEqual(book("mark s v%d" % at), "ok")
        self.run_rows(book, [("mark s w", "refused TooMany"), ("mark s v3", "refused Taken")])
        book = Book()
        houses = many_houses(32)
        book("store s " + " ".join(houses))
        for row in many_lines(96, houses):
            book("put s " + " ".join(row))
        self.run_rows(book, [("put s n h00 h01", "refused TooMany"), ("put s l00 h00 h01", "refused Taken"), ("check s", "sound")])


class PaperTest(BookTest):
    def test_papers_over_several_stores(self):
        self.run_rows(Book(), [
            ("store s a b c", "ok"), ("store t a b c", "ok"), ("paper s a b", "1"), ("put t p a b", "joined a b"), ("paper t a b", "2"),
            ("paper t a c", "3"), ("paper s a a", "4"), ("judge 1", "yes"), ("judge 2", "yes"), ("judge 3", "yes"), ("judge 4", "yes"),
            # In s the cut is wrong after the put, in t it stays right.
            ("put s p a b", "joined a b"), ("judge 1", "no"), ("judge 2", "yes"), ("take t p", "parted a b"), ("judge 2", "no"),
            ("judge 3", "yes"), ("judge 4", "yes"), ("take s p", "parted a b"), ("judge 1", "yes"),
            # The paper stays as it was filed: its way is good again when its line stands again, between the same houses.
            ("put t p b c", "joined b c"), ("judge 2", "no"), ("take t p", "parted b c"), ("put t p b a", "joined a b"), ("judge 2", "yes"),
            ("put t q a c", "joined a c"), ("judge 3", "no"), ("paper t b c", "5"), ("judge 5", "yes"), ("paper x a b", "refused NoStore"),
            ("paper t a z", "refused NoHouse"), ("paper t c b", "6"), ("judge 6", "yes"), ("judge 7", "refused NoPaper")])

    def test_a_way_stays_right_when_it_is_not_the_way_any_more(self):
        book = Book()
        book.run_all(["store s a b", "put s p a b", "put s q a b", "paper s a b", "take s p"])
        self.run_rows(book, [("judge 1", "no"), ("put s p b a", "ok"), ("way s a b", "q"), ("judge 1", "yes")])

    def test_many_papers(self):
        book = Book()
        book("store s a b")
        for number in range(1, 101):
            self.assertExactly(book("paper s a b"), str(number))
        self.run_rows(book, [("judge 100", "yes"), ("judge 10", "yes"), ("judge 101", "refused NoPaper")])


class BoundTest(BookTest):
    def test_entries(self):
        book = Book()
        for at in range(120):
            self.assertEqual(book("store s" if at == 0 else "count s"), "ok" if at == 0 else "0")
        before = state(book)
        for row in ["count s", "", "x", "store t", "store s", "put s p a b", "judge 1"]:
            self.assertRefused("TooMany", [120], book, row)
            self.assertRefused("TooMany", [120], book.run_all, [row])
            self.assertExactly(state(book), before)
        self.assertExactly(book.run_all([]), [])
        self.assertEqual(len(book), 120)

    def test_run_all(self):
        book = Book()
        self.assertRefused("TooMany", [120], book.run_all, ["store s"] + [FILL] * 120)
        self.assertExactly((len(book), book.stores), (0, []))
        self.assertExactly(book.run_all(["store s"] + ["count s"] * 99), ["ok"] + ["0"] * 99)
        before = state(book)
        self.assertRefused("TooMany", [120], book.run_all, ["store t"] * 21)
        self.assertExactly(state(book), before)
        self.assertExactly(book.run_all(("count s",) * 20), ["0"] * 20)
        self.assertEqual(len(book), 120)

    def test_a_refused_row_is_recorded(self):
        book = Book()
        self.assertExactly(book.run_all(["x", "", "count s"]), ["refused BadText", "refused BadText", "refused NoStore"])
        self.assertExactly(book.entries, [("x", "refused BadText"), ("", "refused BadText"), ("count s", "refused NoStore")])

    def test_long_rows(self):
        row = "store s " + " ".join("abcdefghijk%s" % sign for sign in "abcdefghijklmnopqrstuvwxyz012345")
        book = Book()
        self.assertExactly(book(row), "ok")
        self.assertExactly(book("x" * 500), "refused BadText")
        self.assertExactly(book.entries[1][0], "x" * 500)


class RecordTest(BookTest):
    def setUp(self):
        self.book = Book()
        self.rows = ["store s a b", "put s p a b", "oops", "copy s t", "take t p"]
        self.answers = ["ok", "joined a b", "refused BadText", "ok", "parted a b"]
        self.assertExactly(self.book.run_all(self.rows), self.answers)

    def test_entries_and_iteration(self):
        due = list(zip(self.rows, self.answers))
        self.assertExactly(self.book.entries, due)
        self.assertExactly(list(self.book), due)
        self.assertExactly([row for row, _ in self.book], self.rows)
        self.assertExactly((len(self.book), self.book.stores), (5, ["s", "t"]))

    def test_what_is_passed_and_returned(self):
        before = state(self.book)
        rows = ["count s", "count t"]
        found = self.book.run_all(rows)
        self.assertExactly((rows, found), (["count s", "count t"], ["1", "2"]))
        rows.append("count s")
        found.append("z")
        self.assertExactly(self.book.entries, before[0] + [("count s", "1"), ("count t", "2")])
        before = state(self.book)
        for found in [self.book.entries, self.book.stores]:
            found.append("z")
            found[:1] = []
        self.assertExactly(state(self.book), before)

    def test_the_stores_are_ascending(self):
        book = Book()
        book.run_all(["store t", "store s9", "store s10", "copy t a"])
        self.assertExactly(book.stores, ["a", "s10", "s9", "t"])

    def test_twin(self):
        self.book("paper s a b")
        for call in [lambda one: one("take s p"), lambda one: one("store u"), lambda one: one("oops"), lambda one: one("paper t a b")]:
            for at in range(2):
                pair = [self.book.twin(), None]
                pair[1] = pair[0].twin()
                self.assertIs(type(pair[1]), Book)
                before = [state(one) for one in pair]
                self.assertExactly(before[0], before[1])
                self.assertExactly(before[0], state(self.book))
                call(pair[at])
                self.assertExactly(state(pair[1 - at]), before[1 - at])
                self.assertEqual(len(pair[at]), 7)
                answers = [one.run_all(["parts s", "parts t", "judge 1", "judge 2", "check s"]) for one in pair]
                alone = pair[1 - at].run_all(["count s", "store u", "judge 2"])
                self.assertExactly(alone, ["1", "ok", "refused NoPaper"])
                self.assertEqual(answers[1 - at], ["a b", "a / b", "yes", "refused NoPaper", "sound"])

    def test_a_twin_of_a_full_book(self):
        book = Book()
        book.run_all(["store s a"] + ["count s"] * 119)
        twin = book.twin()
        self.assertExactly(state(twin), state(book))
        self.assertRefused("TooMany", [120], twin, "count s")
        self.assertExactly(state(Book().twin()), state(Book()))


class AuditTest(BookTest):
    def setUp(self):
        book = Book()
        book.run_all(["store s a b c", "put s p a b", "put s q b c", "paper s a c", "judge 1", "take s q", "judge 1", "take s q", "oops",
                      "way s a b", "undo s 1", "parts s", "check s"])
        self.entries = book.entries

    def test_true_entries(self):
        self.assertIs(audit(self.entries), None)
        self.assertIs(audit(tuple(self.entries)), None)
        for at in range(len(self.entries) + 1):
            self.assertIs(audit(self.entries[:at]), None)
        self.assertIs(audit(read_book(write_book(self.entries))), None)

    def test_an_answer_changed_at_each_place(self):
        for at, (row, told) in enumerate(self.entries):
            for wrong in ["", told + " ", told.upper() + "x", "ok2", "refused NoStore", "z"]:
                entries = list(self.entries)
                entries[at] = (row, wrong)
                self.assertExactly(audit(entries), (at, told))
                # The first difference counts, whatever stands behind it.
                self.assertExactly(audit(entries + [("x", "y")]), (at, told))
                self.assertExactly(entries[at], (row, wrong))

    def test_a_row_changed_at_each_place(self):
        for at, (row, told) in enumerate(self.entries):
            for other in ["count s", "put s p c b", "oops", "parts x"]:
                entries = list(self.entries)
                entries[at] = (other, told)
                hand = HandBook()
                answers = [hand(one) for one, _ in entries]
                due = [(place, answers[place]) for place in range(len(entries)) if answers[place] != entries[place][1]]
                self.assertExactly(audit(entries), due[0] if due else None)
            # A row left out.
            hand = HandBook()
            entries = self.entries[:at] + self.entries[at + 1:]
            answers = [hand(one) for one, _ in entries]
            due = [(place, answers[place]) for place in range(len(entries)) if answers[place] != entries[place][1]]
            self.assertExactly(audit(entries), due[0] if due else None)

    def test_a_row_with_the_same_answer(self):
        entries = [("store s a b", "ok"), ("put s p a b", "joined a b")]
        self.assertIs(audit([("store s b a", "ok"), ("put s l b a", "joined a b")]), None)
        self.assertIs(audit(entries), None)

    def test_120_and_121_entries(self):
        entries = [("store s a", "ok")] + [("count s", "1")] * 119
        self.assertIs(audit(entries), None)
        self.assertExactly(audit(entries[:-1] + [("count s", "2")]), (119, "1"))
        self.assertRefused("TooMany", [120], audit, entries + [("count s", "1")])
        self.assertRefused("TooMany", [120], audit, [("store s a", "wrong")] + entries)
        self.assertIs(audit([]), None)


class CompareTest(BookTest):
    def test_compare_books(self):
        entries = [("a", "1"), ("b", "2"), ("c", "3")]
        self.assertIs(compare_books([], []), None)
        self.assertIs(compare_books(entries, list(entries)), None)
        self.assertIs(compare_books(entries, tuple(entries)), None)
        for at in range(3):
            self.assertExactly(compare_books(entries, entries[:at]), at)
            self.assertExactly(compare_books(entries[:at], entries), at)
            for wrong in [("x", entries[at][1]), (entries[at][0], "x"), entries[at][::-1]]:
                other = entries[:at] + [wrong] + entries[at + 1:]
                self.assertExactly(compare_books(entries, other), at)
                self.assertExactly(compare_books(other, entries), at)
                self.assertExactly(compare_books(other[:at + 1], entries), at)
                self.assertExactly(compare_books(entries, [*other, ("d", "4")]), at)
        self.assertExactly(compare_books([("x", "1"), ("y", "1")], [("y", "1"), ("x", "1")]), 0)
        self.assertExactly(compare_books([("a", "1")] * 3, [("a", "1")] * 2), 2)
        self.assertExactly(compare_books([("a", "1")] * 130, [("a", "1")] * 125), 125)
        self.assertExactly(entries, [("a", "1"), ("b", "2"), ("c", "3")])


class CheckTest(BookTest):
    def test_sound_at_each_moment(self):
        source = random.Random(98)
        book, standing = Book(), []
        book("store s " + " ".join("abcdefgh"))
        for at in range(59):
            if at % 3 == 2:
                self.assertTrue(book("take s " + standing.pop(source.randrange(len(standing)))) != "refused NoLine")
            else:
                standing.append("l%d" % at)
                book("put s l%d %s %s" % (at, *source.sample("abcdefgh", 2)))
            self.assertExactly(book("check s"), "sound")

    def test_broken(self):
        # No deeds lead there, so the judges are made to say it.
        book = Book()
        book.run_all(["store s a b c", "put s p a b"])
        for judge in ["is_table", "is_within"]:
            with unittest.mock.patch("keptjoined.answers." + judge, return_value=False) as asked:
                self.assertExactly(book("check s"), "broken")
            self.assertEqual(asked.call_count, 1)
        with unittest.mock.patch("keptjoined.answers.is_table", return_value=True) as asked:
            self.assertExactly(book("check s"), "sound")
        self.assertEqual(asked.call_args.args, (["a", "b", "c"], [("p", "a", "b", 0, True)]))


if __name__ == "__main__":
    unittest.main()
