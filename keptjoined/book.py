"""Books: commands that are run and recorded with their answers."""

from keptjoined.answers import ANSWERS, yes_or_no
from keptjoined.certificates import answer, is_answer
from keptjoined.errors import KeptError, NoPaper, NoStore, Taken, TooMany
from keptjoined.history import History
from keptjoined.script import read_command


class Book:
    """Histories under their names, papers under their numbers, and a record of all that was asked and answered."""

    MOST_ENTRIES = 120
    MOST_STORES = 8

    def __init__(self):
        self._entries = []
        self._histories = {}
        self._papers = []

    @property
    def entries(self):
        """The rows with their answers, in order."""
        return list(self._entries)

    @property
    def stores(self):
        """The names of the stores, ascending."""
        return sorted(list(self._histories))

    def __len__(self):
        return len(self._entries)

    def __iter__(self):
        return iter(self._entries)

    def __call__(self, row):
        """Run a row and record it; returns the answer."""
        self._check_room(1)
        return self._run_row(row)

    def run_all(self, rows):
        """Run several rows; returns their answers."""
        self._check_room(len(rows))
        return [self._run_row(row) for row in rows]

    def twin(self):
        """A new book that has run the same rows."""
        made = Book()
        made.run_all([row for row, _ in self._entries])
        return made

    def _check_room(self, count):
        """TooMany if so many further entries would be too many."""
        if len(self._entries) + count > self.MOST_ENTRIES:
            raise TooMany(self.MOST_ENTRIES)

    def _run_row(self, row):
        """Run a row and record it; returns the answer."""
        try:
            told = self._run(read_command(row))
        except KeptError as error:
            told = f"refused {error.code}"
        self._entries.append((row, told))
        return told

    def _run(self, command):
        """The answer to a command."""
        word, name = command[0], command[1]
        if word == "judge":
            return self._judge(name)
        if word == "store":
            return self._make(name, list(command[2:]))
        if name not in self._histories:
            raise NoStore(name)
        if word == "copy":
            return self._copy(name, command[2])
        if word == "paper":
            return self._file(name, command[2], command[3])
        action = ANSWERS[word]
        return action(self._histories[name], list(command[2:]))

    def _make(self, name, houses):
        """Make a history."""
        self._check_new(name)
        made = History(houses)
        self._check_stores()
        self._histories[name] = made
        return "ok"

    def _copy(self, name, other):
        """Make the twin of a history."""
        self._check_new(other)
        self._check_stores()
        self._histories[other] = self._histories[name].twin()
        return "ok"

    def _check_new(self, name):
        """Taken for the name of a store."""
        if name in self._histories:
            raise Taken(name)

    def _check_stores(self):
        """TooMany if there is no room for a further store."""
        if len(self._histories) >= self.MOST_STORES:
            raise TooMany(self.MOST_STORES)

    def _file(self, name, a, b):
        """File what shows whether two houses are joined; returns the number of the paper."""
        self._papers.append((name, a, b, answer(self._histories[name], a, b)))
        return str(len(self._papers))

    def _judge(self, number):
        """Judge a paper for its store as it is now."""
        if not 1 <= number <= len(self._papers):
            raise NoPaper(number)
        name, a, b, certificate = self._papers[number - 1]
        return yes_or_no(is_answer(self._histories[name].web(), a, b, certificate))


def audit(entries):
    """The first entry whose answer differs from that of a new book, with the answer due; None if there is none."""
    if len(entries) > Book.MOST_ENTRIES:
        raise TooMany(Book.MOST_ENTRIES)
    book = Book()
    for at, (row, recorded) in enumerate(entries):
        due = book(row)
        if due != recorded:
            return at, due
    return None


def compare_books(first, second):
    """The first index at which two lists of entries differ, or None."""
    shorter = min(len(first), len(second))
    for at in range(shorter):
        if first[at] != second[at]:
            return at
    return None if len(first) == len(second) else shorter
