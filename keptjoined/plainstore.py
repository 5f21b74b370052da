"""Plain stores, which search anew for each answer, and questions that are asked of stores of both kinds."""

from keptjoined.errors import BadAsk
from keptjoined.plain import find_part, find_parts, is_way, search_joined, shortest_way
from keptjoined.store import two_alone
from keptjoined.webs import Web

# How many items a question has, by its word.
ITEMS_DUE = {"joined": 3, "way": 3, "part": 2, "size": 2, "name": 2, "parts": 1, "count": 1}


class PlainStore:
    """The lines that stand, and no more than these."""

    def __init__(self, houses=()):
        self._web = Web(houses)

    @property
    def houses(self):
        """The houses, ascending."""
        return self._web.houses

    @property
    def lines(self):
        """The lines as tuples (name, low, high), ascending."""
        return self._web.lines

    def __len__(self):
        return len(self._web.lines)

    def __contains__(self, line):
        return line in self._web

    def put(self, line, a, b):
        """Put a new line in; returns None or the two parts that it joins."""
        before = self.parts()
        self._web = self._web.with_line(line, a, b)
        return two_alone(before, self.parts())

    def take(self, line):
        """Take a line out; returns None or the two parts into which its part falls."""
        before = self.parts()
        self._web = self._web.without_line(line)
        return two_alone(self.parts(), before)

    def web(self):
        """The web that stands."""
        return self._web

    def joined(self, a, b):
        """True if two houses are in one part."""
        return search_joined(self._web, a, b)

    def way(self, a, b):
        """The shortest way from a to b, or None."""
        return shortest_way(self._web, a, b)

    def part_of(self, house):
        """The part of a house, ascending."""
        return find_part(self._web, house)

    def size_of(self, house):
        """The number of houses of the part of a house."""
        return len(self.part_of(house))

    def part_name(self, house):
        """The least house of the part of a house."""
        return self.part_of(house)[0]

    def parts(self):
        """The parts in ascending order of their least houses."""
        return find_parts(self._web)

    def part_count(self):
        """The number of parts."""
        return len(self.parts())


def ask(store, question):
    """The answer of a store to a question."""
    check_question(question)
    word = question[0]
    if word == "joined":
        return store.joined(question[1], question[2])
    if word == "way":
        return store.way(question[1], question[2])
    if word == "part":
        return store.part_of(question[1])
    if word == "size":
        return store.size_of(question[1])
    if word == "name":
        return store.part_name(question[1])
    if word == "parts":
        return store.parts()
    return store.part_count()


def check_question(question):
    """BadAsk for what has not the form of a question."""
    if not isinstance(question, (tuple, list)) or len(question) == 0:
        raise BadAsk()
    # The first item may be of any kind, so it is looked up only if it is a string.
    if not isinstance(question[0], str) or ITEMS_DUE.get(question[0]) != len(question):
        raise BadAsk()


def ask_all(store, questions):
    """The answers of a store to several questions."""
    return [ask(store, question) for question in questions]


def disagreement(first, second, questions):
    """The index of the first question on which two stores disagree, or None."""
    for at, question in enumerate(questions):
        one = ask(first, question)
        other = ask(second, question)
        if question[0] == "way":
            agree = ways_agree(first, second, question, one, other)
        else:
            agree = one == other
        if not agree:
            return at
    return None


def ways_agree(first, second, question, one, other):
    """True if both answers are None, or each is a way in the web of its own store."""
    if one is None or other is None:
        return one is None and other is None
    _, a, b = question
    return is_way(first.web(), a, b, one) and is_way(second.web(), a, b, other)
