"""The text of a web: written, read, and searched for its first fault."""

from keptjoined.errors import BadText
from keptjoined.names import MOST_HOUSES, MOST_LINES, is_name
from keptjoined.webs import Web

# How many words a row has, by its first word.
WORDS_DUE = {"house": 2, "line": 4}


def write_web(web):
    """The text of a web: a row for each house, then one for each line."""
    rows = [f"house {house}\n" for house in web.houses]
    rows.extend([f"line {line} {low} {high}\n" for line, low, high in web.lines])
    return "".join(rows)


def read_web(text):
    """The web of a text; BadText for the first fault."""
    made, fault = read_rows(text)
    if fault is not None:
        row, column, word = fault
        raise BadText(row, column, word)
    return Web(list(made.house_names), list(made.line_rows.values()))


def fault_in(text):
    """The first fault as (row, column, fault), or None."""
    _, fault = read_rows(text)
    return fault


class RowsRead:
    """What the rows that were read so far have made."""

    def __init__(self):
        self.house_names = {}
        self.line_rows = {}

    def take_in(self, words):
        """Take in a row without a fault."""
        if words[0] == "house":
            self.house_names[words[1]] = True
        else:
            self.line_rows[words[1]] = (words[1], words[2], words[3])


def read_rows(text):
    """What the rows before the first fault have made, and that fault or None."""
    made = RowsRead()
    rows = text.split("\n")
    # What stands behind the last line feed is a row that is not ended, or nothing.
    last = rows.pop()
    for at, row in enumerate(rows):
        words = row.split(" ")
        fault = row_fault(made, words)
        if fault is not None:
            return made, (at + 1, fault[0], fault[1])
        made.take_in(words)
    if last == "":
        return made, None
    fault = row_fault(made, last.split(" "))
    if fault is None:
        fault = (len(last) + 1, "end")
    return made, (len(rows) + 1, fault[0], fault[1])


def row_fault(made, words):
    """The first fault of a row as (column, fault), or None."""
    column = 1
    for at, word in enumerate(words):
        fault = word_fault(made, words, at)
        if fault is not None:
            return column, fault
        column += len(word) + 1
    if len(words) < WORDS_DUE[words[0]]:
        return column - 1, "less"
    return None


def word_fault(made, words, at):
    """The fault of one word; the words before it have none."""
    word = words[at]
    if word == "":
        return "blank"
    if at == 0:
        return None if word in WORDS_DUE else "word"
    if at >= WORDS_DUE[words[0]]:
        return "more"
    if not is_name(word):
        return "name"
    if words[0] == "house":
        return new_name_fault(made.house_names, MOST_HOUSES, word)
    if at == 1:
        return new_name_fault(made.line_rows, MOST_LINES, word)
    if word not in made.house_names:
        return "nohouse"
    return "self" if at == 3 and word == words[2] else None


def new_name_fault(made, most, word):
    """The fault of a name that a row is to make."""
    if word in made:
        return "twice"
    return "many" if len(made) >= most else None
