"""Levels tables looked at by themselves, and the bounds of what is counted."""

from keptjoined.groups import Groups
from keptjoined.names import is_name, is_whole, most_houses, top_level


def first_break(houses, table):
    """The first break of a levels table of these houses, or None."""
    found = house_break(houses)
    if found is None:
        found = row_break(houses, table)
    if found is None:
        found = level_break(houses, table)
    if found is None:
        found = ring_break(houses, table)
    if found is None:
        found = fact_break(houses, table)
    return found


def house_break(houses):
    """The first house that is no name or not greater than the one before it."""
    for at, house in enumerate(houses):
        if not is_name(house) or (at > 0 and house <= houses[at - 1]):
            return "houses", at
    return None


def row_break(houses, table):
    """The first row that could not stand in a table of these houses."""
    for at, row in enumerate(table):
        if not is_row(houses, row) or (at > 0 and row[0] <= table[at - 1][0]):
            return "row", at
    return None


def is_row(houses, row):
    """True if a row is a line between two of the houses with a level and a bool."""
    line, low, high, level, tie = row
    if not is_name(line) or low not in houses or high not in houses or not low < high:
        return False
    return is_whole(level) and level >= 0 and isinstance(tie, bool)


def level_break(houses, table):
    """The first line above the greatest level."""
    for line, _, _, level, _ in table:
        if level > top_level(len(houses)):
            return "level", line
    return None


def ring_break(houses, table):
    """The first tie whose ends are joined by the ties before it."""
    groups = Groups(houses)
    for line, low, high, _, tie in table:
        if tie and not groups.unite(low, high):
            return "ring", line
    return None


def fact_break(houses, table):
    """The first piece that is too large for its level, or spare whose ends are in two pieces of its level."""
    for level in range(top_level(len(houses)) + 1):
        groups = Groups(houses)
        for _, low, high, reached, tie in table:
            if tie and reached >= level:
                groups.unite(low, high)
        found = size_break(houses, groups, level)
        if found is None:
            found = spare_break(table, groups, level)
        if found is not None:
            return found
    return None


def size_break(houses, groups, level):
    """The first piece of a level that has too many houses."""
    for house in houses:
        # The houses are ascending, so the first one in too large a piece is the least one there.
        if len([other for other in houses if groups.together(house, other)]) > most_houses(len(houses), level):
            return "size", level, house
    return None


def spare_break(table, groups, level):
    """The first spare of a level whose ends are in two of its pieces."""
    for line, low, high, reached, tie in table:
        if not tie and reached == level and not groups.together(low, high):
            return "spare", line
    return None


def is_table(houses, table):
    """Judge whether a levels table has no break."""
    return first_break(houses, table) is None


def rise_bound(count, puts):
    """How many rises so many puts of lines between so many houses can bring at most."""
    return puts * max(0, top_level(count) - 1)


def step_bound(count, puts, takes, rises):
    """How many cuts and splices such deeds and rises can take at most."""
    return 7 * puts + 12 * max(1, top_level(count)) * takes + 7 * rises


def is_within(count, counts):
    """Judge whether the counts of a store of so many houses keep the bounds."""
    if any([number < 0 for number in counts.values()]):
        return False
    puts, takes, rises = counts["puts"], counts["takes"], counts["rises"]
    if takes > puts or counts["joined"] > puts or counts["found"] + counts["parted"] > takes:
        return False
    if not 0 <= counts["joined"] - counts["parted"] <= max(0, count - 1):
        return False
    steps = counts["cuts"] + counts["splices"]
    return rises <= rise_bound(count, puts) and steps <= step_bound(count, puts, takes, rises)
