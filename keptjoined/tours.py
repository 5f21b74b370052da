"""Tours as rows of a yard: planted, turned, tied up and untied by cutting and splicing."""

from keptjoined.checks import check_names
from keptjoined.errors import NoHouse, NoLine, SamePart, SelfLine, Taken
from keptjoined.names import check_name
from keptjoined.plaintours import arc_key, house_key, starts_at


def house_seat(house):
    """The seat of a house, without marks."""
    return house_key(house), 1, None, None


def arc_seat(line, start, stop):
    """The seat of a line in one direction, without marks."""
    return arc_key(line, start, stop), 0, None, None


def check_planted(yard, houses):
    """NoHouse for the first house that has no seat in the yard."""
    for house in houses:
        if house_key(house) not in yard:
            raise NoHouse(house)


def check_ends(yard, line, a, b):
    """The form of a line and of its ends, then the houses, then that the ends differ."""
    check_names([line, a, b])
    check_planted(yard, [a, b])
    if a == b:
        raise SelfLine(line)


def plant(yard, house):
    """Make a tour of one house; returns its row."""
    check_name(house)
    if house_key(house) in yard:
        raise Taken(house)
    return yard.make([house_seat(house)])


def turn(yard, house):
    """Let the tour of a house begin with the seat of the house; returns its row."""
    check_name(house)
    check_planted(yard, [house])
    row = yard.row_of(house_key(house))
    place = yard.place_of(house_key(house))
    if place == 0:
        return row
    left, right = yard.cut(row, place)
    return yard.splice(right, left)


def tie_up(yard, line, a, b):
    """Make one tour of those of a and b with a new line between them; returns its row."""
    check_ends(yard, line, a, b)
    if arc_key(line, a, b) in yard or arc_key(line, b, a) in yard:
        raise Taken(line)
    if yard.row_of(house_key(a)) == yard.row_of(house_key(b)):
        raise SamePart(line)
    row = turn(yard, a)
    inner = turn(yard, b)
    row = yard.splice(row, yard.make([arc_seat(line, a, b)]))
    row = yard.splice(row, inner)
    return yard.splice(row, yard.make([arc_seat(line, b, a)]))


def untie(yard, line, a, b):
    """Make two tours of one by removing a line between a and b; returns the rows of a and of b."""
    check_ends(yard, line, a, b)
    if arc_key(line, a, b) not in yard or arc_key(line, b, a) not in yard:
        raise NoLine(line)
    places = [yard.place_of(arc_key(line, a, b)), yard.place_of(arc_key(line, b, a))]
    head, tail = cut_out(yard, yard.row_of(arc_key(line, a, b)), max(places))
    # What stands before the first arc seat and what stands behind the second one are one tour.
    head, _ = cut_out(yard, head, min(places))
    yard.splice(head, tail)
    return yard.row_of(house_key(a)), yard.row_of(house_key(b))


def cut_out(yard, row, place):
    """Remove the seat at a place; returns the rows of what stood before it and of what stood behind it."""
    rest, right = yard.cut(row, place + 1)
    left, seat = yard.cut(rest, place)
    yard.scrap(seat)
    return left, right


def start_house(yard, row):
    """The house at which the tour of a row starts."""
    return starts_at(yard.at(row, 0)[0])
