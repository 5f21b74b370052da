"""Parts, ways and distances of a web, searched anew at each call."""

from keptjoined.checks import check_names, check_stand
from keptjoined.errors import NoLine
from keptjoined.names import check_name, ordered


def find_parts(web):
    """The parts, each an ascending list of houses, in ascending order of their least houses."""
    steps = steps_of(web, None)
    seen = {}
    parts = []
    for house in web.houses:
        if house not in seen:
            counts = counts_from(steps, house)
            seen.update(counts)
            parts.append(sorted(list(counts)))
    return parts


def find_part(web, house, *, without=None):
    """The part of a house, ascending."""
    check_asked(web, [house], without)
    return sorted(list(counts_from(steps_of(web, without), house)))


def search_joined(web, a, b, *, without=None):
    """True if two houses are in one part."""
    check_asked(web, [a, b], without)
    return b in counts_from(steps_of(web, without), a)


def shortest_way(web, a, b, *, without=None):
    """The way with the fewest steps, and among several the least by its lines; None if there is none."""
    check_asked(web, [a, b], without)
    steps = steps_of(web, without)
    counts = counts_from(steps, b)
    if a not in counts:
        return None
    way = []
    start = a
    while start != b:
        # Of the lines that lead nearer the first is the least, and what follows depends on it alone.
        line, stop = [step for step in steps[start] if counts[step[1]] < counts[start]][0]
        way.append((line, start, stop))
        start = stop
    return way


def distances(web, house, *, without=None):
    """The houses of the part of a house, each with the fewest number of steps."""
    check_asked(web, [house], without)
    counts = counts_from(steps_of(web, without), house)
    return sorted(list(counts.items()))


def is_way(web, a, b, way):
    """Judge whether a list of steps is a way from a to b."""
    if a not in web.houses:
        return False
    met = [a]
    for line, start, stop in way:
        if start != met[-1] or stop in met:
            return False
        if line not in web or web.ends(line) != ordered(start, stop):
            return False
        met.append(stop)
    return met[-1] == b


def check_asked(web, houses, without):
    """The form of all that is asked for, then the houses, then the line to be ignored."""
    check_names(houses)
    if without is not None:
        check_name(without)
    check_stand(web.houses, houses)
    if without is not None and without not in web:
        raise NoLine(without)


def steps_of(web, without):
    """For each house the lines that end there, ascending, each with the house at its other end."""
    steps = {house: [] for house in web.houses}
    for line, low, high in web.lines:
        if line != without:
            steps[low].append((line, high))
            steps[high].append((line, low))
    return steps


def counts_from(steps, house):
    """The fewest number of steps from a house to each house of its part."""
    counts = {house: 0}
    met = [house]
    place = 0
    # Houses are met in the order of their counts, so each one is met first from a house that is nearest.
    while place < len(met):
        start = met[place]
        place += 1
        for _, stop in steps[start]:
            if stop not in counts:
                counts[stop] = counts[start] + 1
                met.append(stop)
    return counts
