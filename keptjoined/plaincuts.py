"""Cuts, forests and bridges of a web, found by plain searches."""

from keptjoined.checks import check_known
from keptjoined.groups import Groups
from keptjoined.plain import find_part, search_joined


def crossing_lines(web, side):
    """The names of the lines with exactly one end in the side, ascending."""
    houses = web.houses
    inside = {}
    for house in side:
        check_known(houses, [house])
        inside[house] = True
    return [line for line, low, high in web.lines if (low in inside) != (high in inside)]


def is_cut(web, a, b, side):
    """Judge whether a side shows that a is not joined to b."""
    if b not in web.houses or not is_side(web, side):
        return False
    # A side has houses alone, so a need not be looked up.
    return a in side and b not in side and crossing_lines(web, side) == []


def is_side(web, side):
    """Judge whether a list is a strictly ascending list of houses of the web."""
    houses = web.houses
    for at, house in enumerate(side):
        if house not in houses or (at > 0 and house <= side[at - 1]):
            return False
    return True


def spanning_lines(web):
    """The names of the lines that, taken in order, join what the lines before them do not."""
    groups = Groups(web.houses)
    taken = []
    for line, low, high in web.lines:
        if groups.unite(low, high):
            taken.append(line)
    return taken


def is_forest(web, names):
    """Judge whether the names are those of different lines without a ring."""
    return groups_of_forest(web, names) is not None


def is_spanning(web, names):
    """Judge whether the names are a forest that joins what the web joins."""
    groups = groups_of_forest(web, names)
    if groups is None:
        return False
    return all([groups.together(low, high) for _, low, high in web.lines])


def groups_of_forest(web, names):
    """The groups that the named lines make of the houses, or None if they are no forest."""
    groups = Groups(web.houses)
    for line in names:
        # A line that is named again finds its ends in one group, like any other that closes a ring.
        if line not in web:
            return None
        low, high = web.ends(line)
        if not groups.unite(low, high):
            return None
    return groups


def plain_bridges(web):
    """The names of the lines whose removal separates their ends, ascending."""
    return [line for line, low, high in web.lines if not search_joined(web, low, high, without=line)]


def bridge_sides(web, line):
    """The parts of the low and the high end without the line, or None if it is no bridge."""
    low, high = web.ends(line)
    side = find_part(web, low, without=line)
    if high in side:
        return None
    return side, find_part(web, high, without=line)
