"""Bridges and blocks of a web, and what shows that two houses stay joined without any one line."""

from keptjoined.certificates import all_steps
from keptjoined.groups import Groups
from keptjoined.plain import find_part, find_parts, is_way, search_joined, shortest_way, steps_of
from keptjoined.plaincuts import crossing_lines, is_cut, is_side
from keptjoined.webs import Web


class Walk:
    """One walk over a web that comes to each house once and looks along each line from both ends."""

    def __init__(self, web):
        self._steps = steps_of(web, None)
        self._places = {}
        self._bridges = []
        for house in web.houses:
            if house not in self._places:
                self._come_to(house, None)

    def bridges(self):
        """The lines that the walk found to be bridges, ascending."""
        return sorted(self._bridges)

    def _come_to(self, house, came):
        """Walk on from a new house that is reached over the line `came`.

        Returns the least place, in the order of the walk, of the houses to which lines lead from what is met from
        here on; the line that is come over does not count.
        """
        place = len(self._places)
        self._places[house] = place
        least = place
        for line, stop in self._steps[house]:
            if stop not in self._places:
                below = self._come_to(stop, line)
                if below > place:
                    self._bridges.append(line)
                least = min(least, below)
            elif line != came:
                least = min(least, self._places[stop])
        return least


def find_bridges(web):
    """The names of the bridges, ascending, found in one walk."""
    return Walk(web).bridges()


def store_bridges(store):
    """The names of the bridges of the web of a store, ascending, found by its ties and spares."""
    web = store.web()
    covered = {}
    for spare in store.spares():
        low, high = web.ends(spare)
        for tie, _, _ in store.way(low, high):
            covered[tie] = True
    return [tie for tie in store.ties() if tie not in covered]


def blocks(web):
    """The parts of the web without its bridges."""
    bridges = find_bridges(web)
    return find_parts(Web(web.houses, [row for row in web.lines if row[0] not in bridges]))


def shrunk(web):
    """The web of the blocks, each a house named like its least house, and the bridges between them."""
    found = blocks(web)
    names = {house: block[0] for block in found for house in block}
    bridges = [(line, names[web.ends(line)[0]], names[web.ends(line)[1]]) for line in find_bridges(web)]
    return Web([block[0] for block in found], bridges)


def bridge_certificate(web, line):
    """The cut that only this line crosses, or the shortest way around it."""
    low, high = web.ends(line)
    side = find_part(web, low, without=line)
    if high in side:
        return "ring", shortest_way(web, low, high, without=line)
    return "cut", side


def is_bridge_certificate(web, line, certificate):
    """Judge what shows that a line is a bridge, or that it is none."""
    word, items = certificate
    if line not in web:
        return False
    if word == "ring":
        low, high = web.ends(line)
        return all_steps(items) and is_way(web, low, high, items) and all([step[0] != line for step in items])
    return word == "cut" and is_crossed_once(web, items, line)


def is_crossed_once(web, side, line):
    """True for a strictly ascending list of houses that this line alone crosses."""
    return is_side(web, side) and crossing_lines(web, side) == [line]


def two_ways(web, a, b):
    """Two ways without a common line, or the bridge that parts two houses, or the cut that shows them apart."""
    first = shortest_way(web, a, b)
    if first is None:
        return "cut", find_part(web, a)
    for line, _, _ in first:
        side = find_part(web, a, without=line)
        if b not in side:
            return "bridge", line, side
    return two_apart(web, a, b, first)


def two_apart(web, a, b, first):
    """Two ways without a common line between houses that no bridge parts, found with the help of any first way."""
    taken = [line for line, _, _ in first]
    free = [row for row in web.lines if row[0] not in taken]
    back = [reverse_of(step) for step in first]
    second = way_along(back + free + [reverse_of(row) for row in free], a, b)
    # A line that the first way goes along in one direction and the second one in the other is left to neither.
    both = first + second
    steps = [step for step in both if reverse_of(step) not in both]
    one = way_along(steps, a, b)
    return "ways", one, way_along([step for step in steps if step not in one], a, b)


def reverse_of(step):
    """A step in the other direction."""
    line, start, stop = step
    return line, stop, start


def way_along(steps, a, b):
    """A way from a to b that goes along some of these steps, each in its direction; None if there is none."""
    ways = {a: []}
    met = [a]
    place = 0
    while place < len(met):
        house = met[place]
        place += 1
        for line, start, stop in steps:
            if start == house and stop not in ways:
                ways[stop] = ways[start] + [(line, start, stop)]
                met.append(stop)
    return ways.get(b)


def is_two_ways(web, a, b, certificate):
    """Judge what shows that two houses stay joined without any one line, or that they do not."""
    word = certificate[0]
    if word == "ways" and len(certificate) == 3:
        return are_two_ways(web, a, b, certificate[1], certificate[2])
    if word == "bridge" and len(certificate) == 3:
        return is_parted_by(web, a, b, certificate[1], certificate[2])
    return word == "cut" and len(certificate) == 2 and is_cut(web, a, b, certificate[1])


def are_two_ways(web, a, b, first, second):
    """True for two ways from a to b without a common line."""
    if not is_way(web, a, b, first) or not is_way(web, a, b, second):
        return False
    taken = [line for line, _, _ in first]
    return all([line not in taken for line, _, _ in second])


def is_parted_by(web, a, b, line, side):
    """True if a and b are joined, and this line alone crosses the side, which has a but not b."""
    if not is_crossed_once(web, side, line) or a not in side or b in side:
        return False
    return b in web.houses and search_joined(web, a, b)


def least_joins(web):
    """The pairs of houses between which lines join all parts, each to the next."""
    names = [part[0] for part in find_parts(web)]
    return [(name, names[at]) for at, name in enumerate(names[:-1], start=1)]


def is_joins(web, joins):
    """Judge whether the pairs join all parts, and are as few as possible."""
    houses = web.houses
    if not all([a in houses and b in houses and a != b for a, b in joins]):
        return False
    if len(joins) != max(0, len(find_parts(web)) - 1):
        return False
    pairs = [(low, high) for _, low, high in web.lines] + list(joins)
    groups = Groups(houses)
    for a, b in pairs:
        groups.unite(a, b)
    return all([groups.together(house, houses[0]) for house in houses])
