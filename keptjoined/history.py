"""Histories: stores that remember their deeds, undo and redo them, and go back to versions."""

from keptjoined.errors import NothingLeft, NoVersion, Taken, TooMany
from keptjoined.journals import Journal, web_difference
from keptjoined.names import MOST_DEEDS, check_name, check_number
from keptjoined.store import Store


class History(Store):
    """A store with the journal of the deeds that were done and not undone."""

    MOST_VERSIONS = 24

    def __init__(self, houses=()):
        Store.__init__(self, houses)
        self._journal = Journal(self.houses)
        self._undone = []
        self._named = {}

    def put(self, line, a, b):
        """Put a new line in; returns None or the two parts that it joins."""
        # The lines of the journal are those that stand, so it refuses what the store does, and then a 241st deed.
        self._journal = self._journal.with_deed(("put", line, a, b))
        self._undone = []
        return super().put(line, a, b)

    def take(self, line):
        """Take a line out; returns None or the two parts into which its part falls."""
        self._journal = self._journal.with_deed(("take", line))
        self._undone = []
        return super().take(line)

    def _do_all(self, deeds):
        """Do deeds as a store does them, whatever the journal is."""
        for deed in deeds:
            if deed[0] == "put":
                super().put(deed[1], deed[2], deed[3])
            else:
                super().take(deed[1])

    def undo(self, count=1):
        """Do the inverses of the last deeds; returns these deeds."""
        check_number(count, 1, MOST_DEEDS)
        left = len(self._journal) - count
        if left < 0:
            raise NothingLeft()
        self._do_all(self._journal.inverse()[:count])
        gone = self._journal.deeds[left:]
        self._journal = self._journal.prefix(left)
        self._undone = gone + self._undone
        return gone

    def redo(self, count=1):
        """Do the first of the undone deeds again; returns them."""
        check_number(count, 1, MOST_DEEDS)
        if count > len(self._undone):
            raise NothingLeft()
        again = self._undone[:count]
        self._do_all(again)
        self._journal = Journal(self.houses, self._journal.deeds + again)
        self._undone = self._undone[count:]
        return again

    def undone(self):
        """The undone deeds in the order in which they would be done again."""
        return list(self._undone)

    def journal(self):
        """The journal of the deeds that were done and not undone."""
        return self._journal

    @property
    def versions(self):
        """The names of the versions, ascending."""
        return sorted(list(self._named))

    def name_version(self, name):
        """Give the journal as it is now a name."""
        check_name(name)
        if name in self._named:
            raise Taken(name)
        if len(self._named) >= self.MOST_VERSIONS:
            raise TooMany(self.MOST_VERSIONS)
        self._named[name] = self._journal

    def version(self, name):
        """The journal of a version."""
        check_name(name)
        if name not in self._named:
            raise NoVersion(name)
        return self._named[name]

    def back_to(self, name):
        """Change the journal to that of a version; returns how many deeds were undone and done."""
        journal = self.version(name)
        common = common_count(self._journal.deeds, journal.deeds)
        gone = len(self._journal) - common
        ahead = journal.deeds[common:]
        self._do_all(self._journal.inverse()[:gone])
        self._do_all(ahead)
        self._journal = journal
        self._undone = []
        return gone, len(ahead)

    def compare(self, first, second=None):
        """The difference of the webs of two versions, or of a version and of what stands now."""
        check_name(first)
        if second is not None:
            check_name(second)
        web = self.version(first).web_at()
        return web_difference(web, self.web() if second is None else self.version(second).web_at())

    def twin(self):
        """A new history that replayed the journal, with the same versions and undone deeds."""
        made = History(self.houses)
        made._do_all(self._journal.deeds)
        made._journal = self._journal
        made._undone = list(self._undone)
        made._named = dict(self._named)
        return made


def common_count(deeds, others):
    """The number of deeds of the longest common beginning of two lists."""
    count = 0
    for deed, other in zip(deeds, others):
        if deed != other:
            return count
        count += 1
    return count
