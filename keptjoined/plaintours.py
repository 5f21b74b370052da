"""Tours as plain lists of keys: round walks that go along each line of a tree once in each direction."""

from keptjoined.errors import NoHouse, NoLine
from keptjoined.names import check_name, is_name


def house_key(house):
    """The key of a house."""
    return "house", house


def arc_key(line, start, stop):
    """The key of a line in one direction."""
    return "arc", line, start, stop


def starts_at(key):
    """The house at which a key starts."""
    return key[1] if len(key) == 2 else key[2]


def stops_at(key):
    """The house at which a key stops."""
    return key[1] if len(key) == 2 else key[3]


def is_tour(keys):
    """Judge whether a list of keys is a tour."""
    if len(keys) == 0 or not all([is_house_key(key) or is_arc_key(key) for key in keys]):
        return False
    arcs = [key for key in keys if is_arc_key(key)]
    houses = {key[1]: True for key in keys if is_house_key(key)}
    if len(keys) != len(houses) + len(arcs) or not all([key[2] in houses for key in arcs]):
        return False
    return is_paired(arcs) and 2 * len(houses) == len(arcs) + 2 and is_round(keys)


def is_house_key(key):
    """True for the key of a house that has a name."""
    return len(key) == 2 and key[0] == "house" and is_name(key[1])


def is_arc_key(key):
    """True for the key of a line between two different houses, all with names."""
    if len(key) != 4 or key[0] != "arc" or key[2] == key[3]:
        return False
    return is_name(key[1]) and is_name(key[2]) and is_name(key[3])


def is_paired(arcs):
    """True if each line has exactly two arc keys, one in each direction."""
    ways = {}
    for _, line, start, stop in arcs:
        ways.setdefault(line, []).append((start, stop))
    return all([len(pair) == 2 and pair[0] == (pair[1][1], pair[1][0]) for pair in ways.values()])


def is_round(keys):
    """True if each key stops where the next one starts, and the last where the first one does."""
    return all([stops_at(keys[at - 1]) == starts_at(key) for at, key in enumerate(keys)])


def turned(keys, house):
    """The tour from the key of a house on, and then what stands before it."""
    check_name(house)
    if house_key(house) not in keys:
        raise NoHouse(house)
    place = keys.index(house_key(house))
    return list(keys[place:]) + list(keys[:place])


def linked(first, second, line, a, b):
    """The tour of two tours and a new line from a, in the first one, to b, in the second one."""
    return turned(first, a) + [arc_key(line, a, b)] + turned(second, b) + [arc_key(line, b, a)]


def parted(keys, line):
    """The two tours that are left without a line: what is outside its two arc keys, and what is inside."""
    check_name(line)
    places = [at for at, key in enumerate(keys) if len(key) == 4 and key[1] == line]
    if places == []:
        raise NoLine(line)
    first, second = places
    return list(keys[:first]) + list(keys[second + 1:]), list(keys[first + 1:second])


def tour_houses(keys):
    """The names of the houses of a tour, ascending."""
    return sorted([key[1] for key in keys if len(key) == 2])


def tour_lines(keys):
    """The names of the lines of a tour, ascending."""
    # Each line has one arc key from its low end to its high end.
    return sorted([key[1] for key in keys if len(key) == 4 and key[2] < key[3]])


def tour_way(keys, a, b):
    """The way from a to b over the lines of a tour that has both houses."""
    walk = turned(keys, a)
    way = []
    for key in walk[:walk.index(house_key(b))]:
        if len(key) == 4:
            way = walked_on(way, key)
    return way


def walked_on(way, key):
    """A way after one more arc key: a step back takes away the step before it."""
    _, line, start, stop = key
    if way != [] and way[-1] == (line, stop, start):
        return way[:-1]
    return way + [(line, start, stop)]
