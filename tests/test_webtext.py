"""Points 13 to 16: the text of a web."""

import random
import unittest

from keptjoined.names import is_name
from keptjoined.webs import Web
from keptjoined.webtext import fault_in, read_web, write_web
from tests.helpers import KeptTest, full_web, many_houses, many_lines, random_webs, web_of

# Behind each text its first fault.
FAULTS = [
    # blank
    ("\n", (1, 1, "blank")),
    ("\n\n", (1, 1, "blank")),
    ("house a\n\n", (2, 1, "blank")),
    ("house a\n\nhouse b\n", (2, 1, "blank")),
    (" house a\n", (1, 1, "blank")),
    ("house  a\n", (1, 7, "blank")),
    ("house \n", (1, 7, "blank")),
    ("house a \n", (1, 9, "blank")),
    ("house a  b\n", (1, 9, "blank")),
    (" \n", (1, 1, "blank")),
    (" ", (1, 1, "blank")),
    ("house ", (1, 7, "blank")),
    ("house a\nhouse b\nline l a b \n", (3, 12, "blank")),
    ("house a\nhouse b\nline l  a b\n", (3, 8, "blank")),
    ("line \n", (1, 6, "blank")),
    # more
    ("house a b\n", (1, 9, "more")),
    ("house a B\n", (1, 9, "more")),
    ("house a b c\n", (1, 9, "more")),
    ("house abc b\n", (1, 11, "more")),
    ("house a\nhouse b\nline l a b c\n", (3, 12, "more")),
    ("house a\nhouse b\nline l a b C d\n", (3, 12, "more")),
    ("house a\nhouse b\nline l a b a\n", (3, 12, "more")),
    # word
    ("a\n", (1, 1, "word")),
    ("House a\n", (1, 1, "word")),
    ("houses a\n", (1, 1, "word")),
    ("hous a\n", (1, 1, "word")),
    ("lines l a b\n", (1, 1, "word")),
    ("LINE l a b\n", (1, 1, "word")),
    ("4 a\n", (1, 1, "word")),
    ("a  b\n", (1, 1, "word")),
    ("a b c d e f\n", (1, 1, "word")),
    ("house a\nweb a\n", (2, 1, "word")),
    ("x", (1, 1, "word")),
    # name
    ("house A\n", (1, 7, "name")),
    ("house 1a\n", (1, 7, "name")),
    ("house abcdefghijklm\n", (1, 7, "name")),
    ("house a-b\n", (1, 7, "name")),
    ("house A B\n", (1, 7, "name")),
    ("house A  B\n", (1, 7, "name")),
    ("house A", (1, 7, "name")),
    ("line L\n", (1, 6, "name")),
    ("house a\nhouse b\nline 9 a b\n", (3, 6, "name")),
    ("house a\nhouse b\nline l A b\n", (3, 8, "name")),
    ("house a\nhouse b\nline l a B\n", (3, 10, "name")),
    ("house a\nhouse b\nline l A A\n", (3, 8, "name")),
    ("line l A\n", (1, 8, "name")),
    # twice
    ("house a\nhouse a\n", (2, 7, "twice")),
    ("house a\nhouse a b\n", (2, 7, "twice")),
    ("house a\nhouse a", (2, 7, "twice")),
    ("house a\nhouse b\nline l a b\nline l a b\n", (4, 6, "twice")),
    ("house a\nhouse b\nline l a b\nline l b a\n", (4, 6, "twice")),
    ("house a\nhouse b\nline l a b\nline l z z\n", (4, 6, "twice")),
    ("house a\nhouse b\nline l a b\nline l\n", (4, 6, "twice")),
    ("house a\nhouse b\nline l a b\nhouse b\n", (4, 7, "twice")),
    # nohouse
    ("house a\nline l a b\n", (2, 10, "nohouse")),
    ("house a\nline l b a\n", (2, 8, "nohouse")),
    ("house a\nline l b b\n", (2, 8, "nohouse")),
    ("house a\nline l a b\nhouse b\n", (2, 10, "nohouse")),
    ("line l l l\n", (1, 8, "nohouse")),
    ("house a\nline l b\n", (2, 8, "nohouse")),
    ("house a\nhouse b\nline l a b\nline m a l\n", (4, 10, "nohouse")),
    # self
    ("house a\nline l a a\n", (2, 10, "self")),
    ("house a\nline l a a b\n", (2, 10, "self")),
    ("house abc\nline l abc abc\n", (2, 12, "self")),
    ("house a\nline l a a", (2, 10, "self")),
    # less
    ("house\n", (1, 6, "less")),
    ("house", (1, 6, "less")),
    ("line\n", (1, 5, "less")),
    ("line l\n", (1, 7, "less")),
    ("line house\n", (1, 11, "less")),
    ("house a\nline l a\n", (2, 9, "less")),
    ("house a\nline l a", (2, 9, "less")),
    ("house a\nhouse\nhouse\n", (2, 6, "less")),
    # end
    ("house a", (1, 8, "end")),
    ("house abc", (1, 10, "end")),
    ("house a\nhouse b", (2, 8, "end")),
    ("house a\nhouse b\nline l a b", (3, 11, "end")),
    ("house a\nhouse b\nline lmn b a", (3, 13, "end")),
    # two faults: the first counts
    ("house A\nhouse B\n", (1, 7, "name")),
    ("house a\nhouse a\nhouse B\n", (2, 7, "twice")),
    ("house\nx\n", (1, 6, "less")),
    ("house a\nline l b a\nline L\n", (2, 8, "nohouse")),
    ("x\nhouse", (1, 1, "word")),
    # no fault
    ("", None),
    ("house a\n", None),
    ("house house\n", None),
    ("house line\nhouse house\nline line house line\nline house line house\n", None),
    ("house b\nhouse a\nline l b a\n", None),
    ("house a\nhouse b\nline a a b\nhouse c\nline b c a\n", None),
    ("house l\nhouse m\nline l l m\nline m l m\n", None),
    ("house abcdefghijkl\n", None),
]


def fault_by_rules(text):
    """The rules of points 14 to 16 once more, rule by rule."""
    rows = text.split("\n")
    last_is_ended = rows[-1] == ""
    if last_is_ended:
        rows.pop()
    houses, lines = [], []
    for row, content in enumerate(rows, 1):
        words = content.split(" ")
        for at, word in enumerate(words):
            column = sum(len(earlier) + 1 for earlier in words[:at]) + 1
            is_house_row = words[0] == "house"
            made = houses if is_house_row else lines
            rules = [
                ("blank", word == ""),
                ("more", at >= (2 if is_house_row else 4)),
                ("word", at == 0 and word not in ("house", "line")),
                ("name", at > 0 and not is_name(word)),
                ("twice", at == 1 and word in made),
                ("many", at == 1 and len(made) == (32 if is_house_row else 96)),
                ("nohouse", at in (2, 3) and word not in houses),
                ("self", at == 3 and word == words[2]),
            ]
            for fault, applies in rules:
                if applies:
                    return row, column, fault
        if len(words) < (2 if words[0] == "house" else 4):
            return row, len(content) + 1, "less"
        if row == len(rows) and not last_is_ended:
            return row, len(content) + 1, "end"
        (houses if words[0] == "house" else lines).append(words[1])
    return None


class WrittenTest(KeptTest):
    def test_houses_then_lines_each_ascending(self):
        self.assertExactly(write_web(web_of("c a b", "m c a, l b a, a a b")),
                           "house a\nhouse b\nhouse c\nline a a b\nline l a b\nline m a c\n")

    def test_no_houses_and_no_lines(self):
        self.assertExactly(write_web(Web()), "")
        self.assertExactly(write_web(Web(["b", "a"])), "house a\nhouse b\n")

    def test_reading_what_was_written(self):
        for web in random_webs(80, 8, 12) + [full_web()]:
            text = write_web(web)
            self.assertIs(fault_in(text), None)
            again = read_web(text)
            self.assertIs(type(again), Web)
            self.assertTrue(again == web)
            self.assertExactly((again.houses, again.lines), (web.houses, web.lines))


class ReadTest(KeptTest):
    def test_the_empty_text(self):
        self.assertTrue(read_web("") == Web())
        self.assertIs(fault_in(""), None)

    def test_rows_in_any_order(self):
        web = read_web("house d\nhouse b\nline z d b\nhouse a\nline y b a\nline a a d\nhouse c\n")
        self.assertExactly(web.houses, ["a", "b", "c", "d"])
        self.assertExactly(web.lines, [("a", "a", "d"), ("y", "a", "b"), ("z", "b", "d")])

    def test_the_example_of_the_document(self):
        self.assertExactly(read_web("house a\nhouse b\nline l b a\n").lines, [("l", "a", "b")])
        self.assertExactly(fault_in("house a\nline l a b\n"), (2, 10, "nohouse"))

    def test_shuffled_rows(self):
        source = random.Random(4)
        for web in random_webs(40, 7, 10):
            rows = [(source.random(), f"house {house}\n") for house in web.houses]
            turned = [(line, high, low) if source.random() < 0.5 else (line, low, high)
                      for line, low, high in web.lines]
            places = {row.split()[1]: place for place, row in rows}
            for line, a, b in turned:
                place = max(places[a], places[b])
                rows.append((place + source.random() + 0.001, f"line {line} {a} {b}\n"))
            text = "".join(row for _, row in sorted(rows))
            self.assertIs(fault_in(text), None)
            self.assertTrue(read_web(text) == web)

    def test_calls_do_not_affect_each_other(self):
        for _ in range(3):
            self.assertIs(fault_in("house a\n"), None)
            self.assertExactly(read_web("house a\n").houses, ["a"])
            self.assertExactly(fault_in("house a\nhouse a\n"), (2, 7, "twice"))


class FaultTest(KeptTest):
    def told(self, text, fault):
        self.assertExactly(fault_in(text), fault)
        if fault is None:
            self.assertIs(type(read_web(text)), Web)
        else:
            self.assertRefused("BadText", list(fault), read_web, text)

    def test_each_fault(self):
        for text, fault in FAULTS:
            with self.subTest(text=text):
                self.told(text, fault)

    def test_the_rules_and_the_table_agree(self):
        for text, fault in FAULTS:
            self.assertEqual(fault_by_rules(text), fault, repr(text))

    def test_the_33rd_house(self):
        text = "".join(f"house {house}\n" for house in many_houses(32))
        self.told(text, None)
        self.assertEqual(len(read_web(text).houses), 32)
        self.told(text + "house new\n", (33, 7, "many"))
        self.told(text + "house new", (33, 7, "many"))
        self.told(text + "house new more\n", (33, 7, "many"))
        self.told(text + "house h00\n", (33, 7, "twice"))
        self.told(text + "house NEW\n", (33, 7, "name"))
        self.told(text + "house\n", (33, 6, "less"))
        self.told(text + "house \n", (33, 7, "blank"))
        self.told(text + "line new h00 h31\n", None)
        self.told(text + "line new h00 h32\n", (33, 14, "nohouse"))

    def test_the_97th_line(self):
        text = write_web(full_web())
        self.told(text, None)
        self.assertEqual(len(read_web(text)), 96)
        self.told(text + "line new h00 h01\n", (129, 6, "many"))
        self.told(text + "line new h00 h01", (129, 6, "many"))
        self.told(text + "line new nn nn nn\n", (129, 6, "many"))
        self.told(text + "line new\n", (129, 6, "many"))
        self.told(text + "line l95 h00 h01\n", (129, 6, "twice"))
        self.told(text + "line NEW h00 h01\n", (129, 6, "name"))
        self.told(text + "line\n", (129, 5, "less"))
        self.told(text + "house h00\n", (129, 7, "twice"))
        self.told(text + "house new\n", (129, 7, "many"))
        less = write_web(Web(["a", "b"], many_lines(96, ["a", "b"])))
        self.told(less + "house new\n", None)
        self.told(less + "line a a b\n", (99, 6, "many"))

    def test_the_most_characters(self):
        self.told("a" * 20000, (1, 1, "word"))
        self.told("\n" * 20000, (1, 1, "blank"))
        self.told("house " + "a" * 19994, (1, 7, "name"))
        self.told("house a\n" + "line l" + " " * 19985 + "\n", (2, 8, "blank"))

    def test_many_texts_against_the_rules(self):
        source = random.Random(7)
        words = ["house", "line", "a", "b", "c", "l", "m", "A", "", "house", "line", "a", "b", "l"]
        seen = set()
        for _ in range(20000):
            rows = []
            for _ in range(source.randint(0, 6)):
                kind = source.random()
                if kind < 0.42:
                    rows.append("house " + source.choice("abc"))
                elif kind < 0.85:
                    rows.append("line " + " ".join(source.choice("lmabc") for _ in range(3)))
                else:
                    rows.append(" ".join(source.choice(words) for _ in range(source.randint(1, 5))))
            text = "\n".join(rows) + source.choice(["\n", "\n", "\n", ""])
            due = fault_by_rules(text)
            self.assertEqual(fault_in(text), due, repr(text))
            seen.add(due and due[2])
        self.assertEqual(seen, {None, "blank", "more", "word", "name", "twice", "nohouse", "self", "less", "end"})


if __name__ == "__main__":
    unittest.main()
