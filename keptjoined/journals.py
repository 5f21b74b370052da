"""Journals: rows of deeds that can be done one after another, and what they tell."""

from keptjoined.checks import check_line_stands, check_new_line
from keptjoined.errors import BadDeed, KeptError, OtherHouses, TooMany
from keptjoined.names import MOST_DEEDS, check_houses, check_number, ordered
from keptjoined.plain import find_parts
from keptjoined.store import Store
from keptjoined.webs import Web


class Journal:
    """Houses, and deeds that can be done one after another from a web without lines; it never changes."""

    def __init__(self, houses=(), deeds=()):
        self._houses = check_houses(houses)
        self._deeds = []
        # The lines that stand behind the last deed, as deeds are checked against these alone.
        self._standing = {}
        for deed in deeds:
            self._go_on(deed)

    def _go_on(self, deed):
        """Check a deed and do it; only while the journal is being made."""
        place = len(self._deeds)
        if not is_deed(deed):
            raise BadDeed(place)
        line = deed[1]
        if deed[0] == "put":
            check_new_line(self._houses, self._standing, line, deed[2], deed[3])
        else:
            check_line_stands(self._standing, line)
        if place >= MOST_DEEDS:
            raise TooMany(MOST_DEEDS)
        if deed[0] == "put":
            low, high = ordered(deed[2], deed[3])
            self._standing[line] = True
            self._deeds.append(("put", line, low, high))
        else:
            del self._standing[line]
            self._deeds.append(("take", line))

    @property
    def houses(self):
        """The houses, ascending."""
        return list(self._houses)

    @property
    def deeds(self):
        """The deeds as tuples, in order."""
        return list(self._deeds)

    def web_at(self, count=None):
        """The web after so many deeds; after all of them for None."""
        if count is None:
            count = len(self._deeds)
        check_number(count, 0, len(self._deeds))
        rows = {}
        for deed in self._deeds[:count]:
            if deed[0] == "put":
                rows[deed[1]] = deed[1:]
            else:
                del rows[deed[1]]
        return Web(self._houses, list(rows.values()))

    def prefix(self, count):
        """The journal of so many deeds."""
        check_number(count, 0, len(self._deeds))
        return Journal(self._houses, self._deeds[:count])

    def with_deed(self, deed):
        """The journal that has this deed too."""
        made = Journal(self._houses)
        made._deeds = list(self._deeds)
        made._standing = dict(self._standing)
        made._go_on(deed)
        return made

    def inverse(self):
        """The deeds that undo all of this, the inverse of the last deed first."""
        puts = {}
        found = []
        for deed in self._deeds:
            if deed[0] == "put":
                puts[deed[1]] = deed
                found.append(("take", deed[1]))
            else:
                found.append(puts[deed[1]])
        return found[::-1]

    def settled(self):
        """The journal that does no more than put the lines that stand at the end."""
        return Journal.from_web(self.web_at())

    @classmethod
    def from_web(cls, web):
        """The journal that puts the lines of a web in ascending order."""
        deeds = [("put", line, low, high) for line, low, high in web.lines]
        return cls(web.houses, deeds)

    def __eq__(self, other):
        return isinstance(other, Journal) and self._houses == other._houses and self._deeds == other._deeds

    def __len__(self):
        return len(self._deeds)

    def __iter__(self):
        return iter(self._deeds)


def is_deed(deed):
    """True for a tuple or list that has the form of a deed; its names are not looked at."""
    if not isinstance(deed, (tuple, list)) or len(deed) == 0 or not isinstance(deed[0], str):
        return False
    return (deed[0], len(deed)) in (("put", 4), ("take", 2))


def do_deed(store, deed):
    """Do a deed on a store; returns the change."""
    if deed[0] == "put":
        return store.put(deed[1], deed[2], deed[3])
    return store.take(deed[1])


def replay(journal):
    """A store that has done the deeds of a journal."""
    store = Store(journal.houses)
    for deed in journal.deeds:
        do_deed(store, deed)
    return store


def first_bad(houses, deeds):
    """The index of the first deed that cannot be done, with the code of its error; None if all can be done."""
    journal = Journal(houses)
    for at, deed in enumerate(deeds):
        try:
            journal = journal.with_deed(deed)
        except KeptError as error:
            return at, error.code
    return None


def lifetimes(journal):
    """For each put the line, its ends, and the first and the last moment at which it stands."""
    deeds = journal.deeds
    return [(deed[1], deed[2], deed[3], at + 1, last_moment(deeds, at))
            for at, deed in enumerate(deeds) if deed[0] == "put"]


def last_moment(deeds, at):
    """The last moment at which the line stands that the deed with this index puts."""
    for place in range(at + 1, len(deeds)):
        if deeds[place] == ("take", deeds[at][1]):
            return place
    return len(deeds)


def joined_spans(journal, a, b):
    """The longest ranges of moments at which two houses are joined."""
    store = Store(journal.houses)
    found = [store.joined(a, b)]
    for deed in journal.deeds:
        do_deed(store, deed)
        found.append(store.joined(a, b))
    firsts = [at for at, here in enumerate(found) if here and (at == 0 or not found[at - 1])]
    lasts = [at for at, here in enumerate(found) if here and (at == len(journal) or not found[at + 1])]
    return list(zip(firsts, lasts))


def ledger(journal):
    """For each moment the puts, the takes, the rises, and the cuts and splices."""
    store = Store(journal.houses)
    found = [ledger_row(store)]
    for deed in journal.deeds:
        do_deed(store, deed)
        found.append(ledger_row(store))
    return found


def ledger_row(store):
    """What the ledger tells of one moment."""
    counts = store.counts()
    return counts["puts"], counts["takes"], counts["rises"], counts["cuts"] + counts["splices"]


def final_levels(journal):
    """For each put the level that the line has at its last moment."""
    store = Store(journal.houses)
    found = []
    places = {}
    for deed in journal.deeds:
        line = deed[1]
        if deed[0] == "put":
            places[line] = len(found)
            found.append(0)
        else:
            found[places[line]] = store.level_of(line)
        do_deed(store, deed)
    for line, _, _ in store.lines:
        found[places[line]] = store.level_of(line)
    return found


def web_difference(first, second):
    """The lines of either web alone, and the pairs of houses that are joined in either web alone."""
    if first.houses != second.houses:
        raise OtherHouses()
    return (alone(first.lines, second.lines), alone(second.lines, first.lines),
            alone(joined_pairs(first), joined_pairs(second)), alone(joined_pairs(second), joined_pairs(first)))


def joined_pairs(web):
    """The pairs of different houses that are joined, ascending."""
    return sorted([(a, b) for part in find_parts(web) for a in part for b in part if a < b])


def alone(items, others):
    """The items that are not among the others, in their order."""
    known = {item: True for item in others}
    return [item for item in items if item not in known]
