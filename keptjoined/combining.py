"""Webs that are put side by side, renamed, or let into others, and journals that are woven into one."""

from keptjoined.checks import check_names, check_stand
from keptjoined.errors import NoLine, Taken
from keptjoined.journals import Journal
from keptjoined.names import check_name, check_number
from keptjoined.webs import Web


def line_names(web):
    """The names of the lines of a web, ascending."""
    return [row[0] for row in web.lines]


def check_apart(names, others):
    """Taken for the least name that stands in both lists."""
    common = sorted([name for name in names if name in others])
    if common != []:
        raise Taken(common[0])


def side_by_side(first, second):
    """The web with the houses and lines of both."""
    check_apart(first.houses, second.houses)
    check_apart(line_names(first), line_names(second))
    return Web(first.houses + second.houses, first.lines + second.lines)


def renamed(web, *, houses=None, lines=None):
    """The web with other names for some of its houses and lines; all change at once."""
    house_names = new_house_names(web, {} if houses is None else houses)
    new_names = new_line_names(web, {} if lines is None else lines)
    rows = [(new_names[line], house_names[low], house_names[high]) for line, low, high in web.lines]
    return Web(list(house_names.values()), rows)


def new_house_names(web, changes):
    """The new name of each house of a web."""
    for house in sorted(list(changes)):
        check_stand(web.houses, [house])
        check_name(changes[house])
    return changed_names(web.houses, changes)


def new_line_names(web, changes):
    """The new name of each line of a web."""
    for line in sorted(list(changes)):
        if line not in web:
            raise NoLine(line)
        check_name(changes[line])
    return changed_names(line_names(web), changes)


def changed_names(names, changes):
    """The new name of each of the names; Taken for the least one that two of them would share."""
    found = {name: changes.get(name, name) for name in names}
    given = sorted(list(found.values()))
    for at in range(1, len(given)):
        if given[at] == given[at - 1]:
            raise Taken(given[at])
    return found


def let_in(outer, house, inner, door):
    """The web with a web in the place of one of its houses; the lines that ended there end at the door."""
    check_names([house, door])
    check_stand(outer.houses, [house])
    check_stand(inner.houses, [door])
    rest = [other for other in outer.houses if other != house]
    check_apart(rest, inner.houses)
    check_apart(line_names(outer), line_names(inner))
    rows = [(line, door if low == house else low, door if high == house else high) for line, low, high in outer.lines]
    return Web(rest + inner.houses, rows + inner.lines)


def weave(first, second, turns=()):
    """The journal of the deeds of two journals, by turns as long as these last, and then one behind the other."""
    for turn in turns:
        check_number(turn, 1, 2)
    check_apart(first.houses, second.houses)
    check_apart([deed[1] for deed in first.deeds], [deed[1] for deed in second.deeds])
    return Journal(first.houses + second.houses, woven(first.deeds, second.deeds, turns))


def woven(deeds, others, turns):
    """The deeds of two lists by turns; the rest of the first list, and then of the second one, follows."""
    rows = (deeds, others)
    places = [0, 0]
    mixed = []
    for turn in turns:
        row = rows[turn - 1]
        place = places[turn - 1]
        if place < len(row):
            mixed.append(row[place])
            places[turn - 1] = place + 1
    return mixed + deeds[places[0]:] + others[places[1]:]
