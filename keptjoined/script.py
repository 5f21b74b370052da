"""Commands and books as texts: rows of words, and the entries of a book."""

from keptjoined.errors import BadText
from keptjoined.names import is_name

# What is due behind the word of a command: "a" for a name, "0" for a number. Behind `store` further names may follow.
WORDS_DUE = {
    "store": "a", "copy": "aa", "put": "aaaa", "take": "aa", "joined": "aaa", "way": "aaa", "part": "aa", "size": "aa",
    "parts": "a", "count": "a", "bridges": "a", "level": "aa", "undo": "a0", "redo": "a0", "mark": "aa", "back": "aa",
    "compare": "aaa", "check": "a", "paper": "aaa", "judge": "0",
}


def read_command(row):
    """The words of a command, with its numbers as integers; BadText for the first fault."""
    words = row.split(" ")
    column = 1
    for at, word in enumerate(words):
        fault = word_fault(words, at)
        if fault is not None:
            raise BadText(1, column, fault)
        column += len(word) + 1
    if len(words) <= len(WORDS_DUE[words[0]]):
        raise BadText(1, column - 1, "less")
    return tuple([int(word) if kind_due(words, at) == "0" else word for at, word in enumerate(words)])


def kind_due(words, at):
    """What is due at a place behind the first word: "a", "0", or None behind the last word that is due."""
    if at == 0 or words[0] == "store":
        return "a"
    due = WORDS_DUE[words[0]]
    return due[at - 1] if at <= len(due) else None


def word_fault(words, at):
    """The fault of one word; the words before it have none."""
    word = words[at]
    if word == "":
        return "blank"
    if at == 0:
        return None if word in WORDS_DUE else "word"
    due = kind_due(words, at)
    if due is None:
        return "more"
    if due == "a":
        return None if is_name(word) else "name"
    return None if is_number(word) else "number"


def is_number(word):
    """True for one to three digits without leading zeros."""
    if not 1 <= len(word) <= 3 or not all(["0" <= c <= "9" for c in word]):
        return False
    return word == "0" or word[0] != "0"


def write_command(command):
    """The row of a command."""
    return " ".join([str(word) for word in command])


def write_book(entries):
    """The text of the entries of a book: a row for each row, and one for its answer."""
    return "".join([f"> {row}\n= {told}\n" for row, told in entries])


def read_book(text):
    """The entries of a text; BadText for the first fault."""
    rows = text.split("\n")
    # What stands behind the last line feed is a row that is not ended, or nothing.
    ended = rows[-1] == ""
    if ended:
        rows = rows[:-1]
    for at, row in enumerate(rows):
        if not row.startswith("= " if at % 2 == 1 else "> "):
            raise BadText(at + 1, 1, "mark")
    if not ended:
        raise BadText(len(rows), len(rows[-1]) + 1, "end")
    if len(rows) % 2 == 1:
        raise BadText(len(rows) + 1, 1, "pair")
    return [(row[2:], told[2:]) for row, told in zip(rows[::2], rows[1::2])]
