"""The rows of deeds that make the most lines rise, found by trying all of them."""

from keptjoined.checks import check_line
from keptjoined.errors import NoLine, Taken, TooMany
from keptjoined.names import check_name, check_number, ordered
from keptjoined.plainlevels import PlainLevels

# At most so many lines in the web and in the menu, so many names in a list, and so many lists to be tried.
MOST_CHOICES = 12
MOST_NAMES = 7
MOST_LISTS = 64


def rises_of(web, menu, names):
    """The number of rises while the named lines of the menu are toggled, one after another."""
    ends = ends_of_menu(web, menu)
    for name in names:
        check_name(name)
        if name not in ends:
            raise NoLine(name)
    return rises_from(levels_of(web), ends, names)


def ends_of_menu(web, menu):
    """The ends of each line of a menu, checked line by line, and then the bounds."""
    houses = web.houses
    ends = {}
    for line, a, b in menu:
        check_line(houses, line, a, b)
        if line in ends or (line in web and web.ends(line) != ordered(a, b)):
            raise Taken(line)
        ends[line] = ordered(a, b)
    if len(web) > MOST_CHOICES or len(ends) > MOST_CHOICES:
        raise TooMany(MOST_CHOICES)
    return ends


def levels_of(web):
    """The levels after the lines of a web were put in ascending order."""
    levels = PlainLevels(web.houses)
    for line, low, high in web.lines:
        levels.put(line, low, high)
    return levels


def rises_from(levels, ends, names):
    """The number of rises while lines are toggled on levels, which change."""
    rises = 0
    for name in names:
        if name in [row[0] for row in levels.lines]:
            trace = levels.take(name)
        else:
            low, high = ends[name]
            trace = levels.put(name, low, high)
        rises += len([step for step in trace if step[0] == "raise"])
    return rises


def all_lists(names, count):
    """All lists of so many names, ascending; TooMany if they are too many to be tried."""
    lists = [[]]
    for _ in range(count):
        lists = [row + [name] for row in lists for name in names]
        if len(lists) > MOST_LISTS:
            raise TooMany(MOST_LISTS)
    return lists


def worst_row(web, menu, count):
    """The greatest number of rises of all lists of so many names, and the least list that reaches it."""
    check_number(count, 0, MOST_NAMES)
    ends = ends_of_menu(web, menu)
    lists = all_lists(sorted(list(ends)), count)
    levels = levels_of(web)
    best = None
    for names in lists:
        rises = rises_from(levels.twin(), ends, names)
        if best is None or rises > best[0]:
            best = (rises, names)
    return best


def is_worst(web, menu, count, found):
    """Judge whether a list of so many names has these rises, and no list has more."""
    rises, names = found
    known = [row[0] for row in menu]
    best = worst_row(web, menu, count)
    if best is None or best[0] != rises or len(names) != count or not all([name in known for name in names]):
        return False
    return rises_of(web, menu, names) == rises
