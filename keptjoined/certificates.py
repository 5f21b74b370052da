"""Certificates: tuples that show an answer to be right for a web, judged by looking at the web alone."""

from keptjoined.plain import distances, is_way, shortest_way
from keptjoined.plaincuts import is_cut, is_forest


def answer(store, a, b):
    """The way from a to b of a store, or the cut that shows that there is none."""
    way = store.way(a, b)
    if way is None:
        return "cut", store.part_of(a)
    return "way", way


def is_answer(web, a, b, certificate):
    """Judge what shows that a is joined to b, or that it is not."""
    word, items = certificate
    if word == "way":
        return all_steps(items) and is_way(web, a, b, items)
    # In a side a tuple is no house, like any unknown name.
    return word == "cut" and is_cut(web, a, b, items)


def all_steps(items):
    """True if the items of a list are tuples, none a string."""
    return all([isinstance(item, tuple) for item in items])


def parts_certificate(store):
    """The parts of a store, and the ties that hold them together."""
    return "parts", store.parts(), store.ties()


def is_parts_certificate(web, certificate):
    """Judge what shows which parts a web has."""
    word, parts, ties = certificate
    if word != "parts" or any([len(part) == 0 for part in parts]):
        return False
    if sorted([house for part in parts for house in part]) != web.houses:
        return False
    places = {house: place for place, part in enumerate(parts) for house in part}
    if not all([places[low] == places[high] for _, low, high in web.lines]):
        return False
    return is_forest(web, ties) and len(ties) == len(places) - len(parts)


def shortest_certificate(web, a, b):
    """The shortest way from a to b with the distances from a, or None if a and b are not joined."""
    way = shortest_way(web, a, b)
    if way is None:
        return None
    return "shortest", way, distances(web, a)


def is_shortest_certificate(web, a, b, certificate):
    """Judge what shows that a way from a to b is a shortest one."""
    word, way, counts = certificate
    if word != "shortest" or not is_way(web, a, b, way):
        return False
    numbers = dict(counts)
    houses = web.houses
    if len(numbers) != len(counts) or not all([house in houses for house in numbers]):
        return False
    if numbers.get(a) != 0 or numbers.get(b) != len(way):
        return False
    return all([is_gentle(numbers, low, high) for _, low, high in web.lines])


def is_gentle(numbers, low, high):
    """True if both ends of a line have numbers that differ by at most one, or neither end has a number."""
    if low not in numbers or high not in numbers:
        return low not in numbers and high not in numbers
    return abs(numbers[low] - numbers[high]) <= 1
