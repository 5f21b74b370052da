"""Points 98, 99 and 103, and 7 and 8 as far as they speak of script.py."""

import random
import unittest

from keptjoined.errors import BadText
from keptjoined.names import is_name
from keptjoined.script import read_book, read_command, write_book, write_command
from tests.helpers import NO_NAMES, KeptTest

# Each command with the kinds of its words; behind those of `store` further names may follow.
KINDS = {
    "store": "S", "copy": "S T", "put": "S L A B", "take": "S L", "joined": "S A B", "way": "S A B", "part": "S A",
    "size": "S A", "parts": "S", "count": "S", "bridges": "S", "level": "S L", "undo": "S N", "redo": "S N", "mark": "S V",
    "back": "S V", "compare": "S V W", "check": "S", "paper": "S A B", "judge": "K",
}

# Words that stand where a name is due and are none; none is empty or has a space or a line feed.
BAD_WORDS = [word for word in NO_NAMES if isinstance(word, str) and word and " " not in word and "\n" not in word]

NO_NUMBERS = ["00", "01", "007", "1000", "0000", "-1", "+1", "1.0", "a", "1a", "a1", "1_0", "x", "A", "-", "9999", "12345",
              "1e1", "0x1", "one", "'1'", "0000000000"]


def due_words(word):
    return KINDS[word].split()


def sample(word, number=7):
    """A command with all of its words."""
    return (word, *[number if kind in "NK" else kind.lower() + "1" for kind in due_words(word)])


def fault_by_hand(row):
    """The column and the fault of a row, or None, by point 99."""
    words, column = row.split(" "), 1
    for at, word in enumerate(words):
        kinds = KINDS.get(words[0], "").split()
        if word == "":
            return column, "blank"
        if at and words[0] != "store" and at > len(kinds):
            return column, "more"
        if at == 0 and word not in KINDS:
            return column, "word"
        kind = kinds[at - 1] if 0 < at <= len(kinds) else "A"
        if at and kind in "NK":
            if word not in [str(number) for number in range(1000)]:
                return column, "number"
        elif at and not is_name(word):
            return column, "name"
        column += len(word) + 1
    return (len(row) + 1, "less") if len(words) <= len(KINDS[words[0]].split()) else None


def book_fault_by_hand(text):
    """The fault of the text of a book, by point 103."""
    rows = text.split("\n")
    if rows[-1] == "":
        rows.pop()
        ended = True
    else:
        ended = False
    for at, row in enumerate(rows):
        if row[:2] != ("> ", "= ")[at % 2]:
            return at + 1, 1, "mark"
    if not ended:
        return len(rows), len(rows[-1]) + 1, "end"
    return (len(rows) + 1, 1, "pair") if len(rows) % 2 else None


class CommandTest(KeptTest):
    def fault(self, row, column, fault):
        self.assertRefused("BadText", [1, column, fault], read_command, row)
        self.assertEqual(fault_by_hand(row), (column, fault), row)

    def good(self, row, command):
        self.assertExactly(read_command(row), command)
        self.assertExactly(write_command(command), row)
        self.assertIs(fault_by_hand(row), None)

    def test_the_example_of_the_document(self):
        self.good("undo s 2", ("undo", "s", 2))

    def test_each_command(self):
        self.assertEqual(len(KINDS), 20)
        for word in KINDS:
            for number in [0, 1, 9, 10, 99, 100, 999]:
                command = sample(word, number)
                self.good(" ".join(str(item) for item in command), command)
        self.good("put s l a b", ("put", "s", "l", "a", "b"))
        self.good("judge 0", ("judge", 0))
        self.good("redo s 240", ("redo", "s", 240))
        # Names may be words of commands, and of the longest kind.
        self.good("put put put put put", ("put",) * 5)
        self.good("way abcdefghijkl a2345678901z b", ("way", "abcdefghijkl", "a2345678901z", "b"))

    def test_a_store_with_many_words(self):
        self.good("store s", ("store", "s"))
        self.good("store s a", ("store", "s", "a"))
        self.good("store s b a a", ("store", "s", "b", "a", "a"))
        row = "store s" + " h" * 200
        self.good(row, ("store", "s") + ("h",) * 200)
        self.fault(row + " 1", len(row) + 2, "name")
        self.fault(row + " ", len(row) + 2, "blank")

    def test_blank(self):
        self.fault("", 1, "blank")
        self.fault(" ", 1, "blank")
        for word in KINDS:
            words = [str(item) for item in sample(word)]
            row = " ".join(words)
            self.fault(" " + row, 1, "blank")
            self.fault(row + " ", len(row) + 2, "blank")
            for at in range(1, len(words)):
                start = " ".join(words[:at])
                self.fault(start + "  " + " ".join(words[at:]), len(start) + 2, "blank")
                self.fault(start + " ", len(start) + 2, "blank")

    def test_more(self):
        for word in KINDS:
            row = " ".join(str(item) for item in sample(word))
            if word != "store":
                for rest in ["a", "1", "A", "put", "a b", "- 1"]:
                    self.fault(row + " " + rest, len(row) + 2, "more")

    def test_word(self):
        for word in ["Put", "PUT", "puts", "pu", "stores", "s", "1", "-", "put.", "Store", "_", "undo2", "name", "trace"]:
            self.fault(word, 1, "word")
            self.fault(word + " s l a b", 1, "word")
            self.fault(word + "  ", 1, "word")
            self.fault(word + " S", 1, "word")

    def test_name(self):
        for word in KINDS:
            words = [str(item) for item in sample(word)]
            for at, kind in enumerate(due_words(word), start=1):
                if kind not in "NK":
                    for wrong in BAD_WORDS:
                        start = " ".join(words[:at])
                        self.fault(" ".join(words[:at] + [wrong] + words[at + 1:]), len(start) + 2, "name")
                        self.fault(start + " " + wrong, len(start) + 2, "name")

    def test_number(self):
        for word in ["undo", "redo", "judge"]:
            start = " ".join(str(item) for item in sample(word)[:-1])
            for wrong in NO_NUMBERS:
                self.fault(start + " " + wrong, len(start) + 2, "number")
                self.fault(start + " " + wrong + " a", len(start) + 2, "number")
            for number in range(1000):
                self.good(start + " " + str(number), (*sample(word)[:-1], number))

    def test_less(self):
        for word in KINDS:
            words = [str(item) for item in sample(word)]
            for at in range(1, len(words)):
                row = " ".join(words[:at])
                self.fault(row, len(row) + 1, "less")

    def test_two_faults(self):
        for row, column, fault in [
                ("put S L A B", 5, "name"), ("put s L  b", 7, "name"), ("put  L a b", 5, "blank"), ("Put  S", 1, "word"),
                ("take s l x ", 10, "more"), ("take s l  ", 10, "blank"), ("take s L x", 8, "name"), ("undo S 01", 6, "name"),
                ("undo s 01 x", 8, "number"), ("undo s  01", 8, "blank"), ("judge 1 1", 9, "more"), ("judge a 1", 7, "number"),
                ("put s", 6, "less"), ("put s L", 7, "name"), ("undo 1", 6, "name"), ("judge", 6, "less"), ("judge ", 7, "blank"),
                ("store", 6, "less"), ("store ", 7, "blank"), ("store s A B", 9, "name"), ("way s a b A ", 11, "more"),
                ("parts s ", 9, "blank"), ("parts s 1", 9, "more"), ("parts s  x", 9, "blank"), ("  put", 1, "blank")]:
            self.fault(row, column, fault)

    def test_random_rows(self):
        source = random.Random(99)
        words = list(KINDS) + ["a", "s", "b2", "A", "0", "1", "01", "1000", "", "-", "x" * 13]
        found = set()
        for _ in range(3000):
            row = " ".join([source.choice(list(KINDS) if source.randrange(9) else words)]
                           + source.choices(words[-11:], weights=[9, 9, 9, 1, 3, 3, 1, 1, 1, 1, 1], k=source.randrange(6)))
            due = fault_by_hand(row)
            if due:
                found.add(due[1])
                self.assertRefused("BadText", [1, *due], read_command, row)
            else:
                self.assertExactly(write_command(read_command(row)), row)
        self.assertEqual(found, {"blank", "more", "word", "name", "number", "less"})

    def test_long_rows(self):
        self.fault("x" * 500, 1, "word")
        self.fault("put " + "x" * 496, 5, "name")
        self.fault(" " * 500, 1, "blank")
        self.fault("undo s " + "1" * 493, 8, "number")


class BookTextTest(KeptTest):
    def fault(self, text, row, column, fault):
        self.assertRefused("BadText", [row, column, fault], read_book, text)
        self.assertEqual(book_fault_by_hand(text), (row, column, fault))

    def test_there_and_back(self):
        for entries, text in [
                ([], ""), ([("", "")], "> \n= \n"), ([("store s", "ok")], "> store s\n= ok\n"),
                ([("store s", "ok"), ("x", "refused BadText"), (" ", "> ")], "> store s\n= ok\n> x\n= refused BadText\n>  \n= > \n"),
                ([("> a", "= b")], "> > a\n= = b\n")]:
            for given in [entries, tuple(entries)]:
                self.assertExactly(write_book(given), text)
            self.assertExactly(read_book(text), entries)
            self.assertExactly(write_book(read_book(text)), text)

    def test_mark(self):
        for text, row in [("\n", 1), ("x\n= \n", 1), (">\n= \n", 1), ("= \n> \n", 1), (" > a\n= \n", 1), (">a\n= b\n", 1),
                          ("> a\n> b\n", 2), ("> a\n=b\n", 2), ("> a\n\n", 2), ("> a\n= b\n= c\n", 3), ("> a\n= b\n\n", 3),
                          ("> a\n= b\n> c\n> d\n", 4), ("x", 1), (">", 1), ("> a\n=", 2), ("> a\nx", 2), ("> a\n= b\n>", 3),
                          (" ", 1), ("\n\n", 1), ("> a\n= b\n> c\n= d\n ", 5)]:
            self.fault(text, row, 1, "mark")

    def test_end(self):
        for text, row, column in [("> a", 1, 4), ("> ", 1, 3), ("> a\n= bcd", 2, 6), ("> a\n= ", 2, 3), ("> a\n= b\n> ", 3, 3),
                                  ("> a\n= b\n> c\n= dd", 4, 5)]:
            self.fault(text, row, column, "end")

    def test_pair(self):
        for text, row in [("> \n", 2), ("> a\n", 2), ("> a\n= b\n> c\n", 4), ("> a\n= b\n> c\n= d\n> e\n", 6)]:
            self.fault(text, row, 1, "pair")

    def test_two_faults(self):
        # A mark anywhere comes before the end, and the end before the pair.
        self.fault("> a\nb\n> c", 2, 1, "mark")
        self.fault("> a\n= b\n> c\nx", 4, 1, "mark")
        self.fault("a\nb\n", 1, 1, "mark")
        self.fault("> a\n= b\n> c", 3, 4, "end")
        self.fault("> a\nb\n> c\n", 2, 1, "mark")

    def test_each_character_left_out_or_changed(self):
        entries = [("store s a b", "ok"), ("put s l a b", "joined a b"), ("judge 1", "refused NoPaper")]
        text = write_book(entries)
        for at in range(len(text)):
            for spoilt in [text[:at], text[:at] + text[at + 1:], text[:at] + "\n" + text[at:], text[:at] + " " + text[at + 1:],
                           text[:at] + "\n" + text[at + 1:], text[:at] + "> " + text[at:]]:
                due = book_fault_by_hand(spoilt)
                if due:
                    self.assertRefused("BadText", list(due), read_book, spoilt)
                else:
                    self.assertExactly(write_book(read_book(spoilt)), spoilt)

    def test_long_texts(self):
        entries = [("x" * 400, "y" * 400)] * 240
        self.assertExactly(read_book(write_book(entries)), entries)
        self.fault("\n" * 200000, 1, 1, "mark")

    def test_what_is_passed_stays(self):
        entries = [("a", "b")]
        write_book(entries).strip()
        self.assertExactly(entries, [("a", "b")])
        found = read_book("> a\n= b\n")
        found.append("z")
        self.assertExactly(read_book("> a\n= b\n"), [("a", "b")])
        with self.assertRaises(BadText):
            read_book("> a")


if __name__ == "__main__":
    unittest.main()
