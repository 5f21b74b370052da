"""Yards: rows of seats, each row held in a balanced tree of its own."""

from keptjoined.errors import BadPlace, NoRow, NoSeat, SeatTaken
from keptjoined.knots import (
    Knot, bind, chained, gather_up, grown, halves, knot_at, knots_of, many_of, place_in, range_of, root_of,
    shape_of, tall_of, whole)
from keptjoined.names import is_whole


def check_place(place, least, most):
    """BadPlace unless the place is an integer from least to most."""
    if not is_whole(place) or not least <= place <= most:
        raise BadPlace(place)


class Yard:
    """Any number of rows of seats; no two seats have equal keys."""

    def __init__(self):
        self._roots = {}
        self._knots = {}
        self._made = 0
        self._cuts = 0
        self._splices = 0

    def _root(self, row):
        """The tree of a row that stands."""
        if not is_whole(row) or row not in self._roots:
            raise NoRow(row)
        return self._roots[row]

    def _knot(self, key):
        """The knot of a key that is in the yard."""
        if key not in self._knots:
            raise NoSeat(key)
        return self._knots[key]

    def _check_new(self, seats):
        """SeatTaken for the first seat whose key is in the yard or stands earlier in the list."""
        met = {}
        for seat in seats:
            key = seat[0]
            if key in self._knots or key in met:
                raise SeatTaken(key)
            met[key] = True

    def _keep(self, row, root):
        """Let a row have this tree."""
        self._roots[row] = root
        if root is not None:
            root.above = None
            root.number = row

    def _stand(self, root):
        """Make a row of a tree; returns its number."""
        row = self._made
        self._made = row + 1
        self._keep(row, root)
        return row

    def make(self, seats=()):
        """Make a row of a list of seats; returns its number."""
        self._check_new(seats)
        knots = [Knot(seat) for seat in seats]
        for knot in knots:
            self._knots[knot.key] = knot
        return self._stand(grown(knots))

    def scrap(self, row):
        """Remove a row and its seats."""
        for knot in knots_of(self._root(row)):
            del self._knots[knot.key]
        del self._roots[row]

    def row_numbers(self):
        """The numbers of the rows that stand, ascending."""
        return sorted(list(self._roots))

    def listed(self, row):
        """The seats of a row in order."""
        return [knot.seat() for knot in knots_of(self._root(row))]

    def size(self, row):
        """The number of seats of a row."""
        return many_of(self._root(row))

    def weight(self, row):
        """The sum of the weights of a row."""
        return whole(self._root(row))[0]

    def height(self, row):
        """The height of the tree of a row."""
        return tall_of(self._root(row))

    def least_tie(self, row):
        """The least tie mark of a row, or None."""
        return whole(self._root(row))[1]

    def least_spare(self, row):
        """The least spare mark of a row, or None."""
        return whole(self._root(row))[2]

    def shape(self, row):
        """The shape of the tree of a row."""
        return shape_of(self._root(row))

    def at(self, row, place):
        """The seat at a place of a row."""
        root = self._root(row)
        check_place(place, 0, many_of(root) - 1)
        return knot_at(root, place).seat()

    def stretch(self, row, start, stop):
        """The sum of weights and the least marks of the seats from start to stop - 1."""
        root = self._root(row)
        check_place(start, 0, many_of(root))
        check_place(stop, start, many_of(root))
        return range_of(root, start, stop)

    def row_of(self, key):
        """The number of the row that holds the seat with this key."""
        return root_of(self._knot(key)).number

    def place_of(self, key):
        """The place of the seat with this key in its row."""
        return place_in(self._knot(key))

    def put(self, row, place, seat):
        """Add a seat so that it has this place."""
        root = self._root(row)
        check_place(place, 0, many_of(root))
        self._check_new([seat])
        knot = Knot(seat)
        self._knots[knot.key] = knot
        left, right = halves(root, place)
        self._keep(row, bind(left, knot, right))

    def drop(self, row, place):
        """Remove and return the seat at a place."""
        root = self._root(row)
        check_place(place, 0, many_of(root) - 1)
        left, rest = halves(root, place)
        knot, right = halves(rest, 1)
        self._keep(row, chained(left, right))
        del self._knots[knot.key]
        return knot.seat()

    def mark(self, key, *, tie=None, spare=None):
        """Set both marks of a seat."""
        knot = self._knot(key)
        knot.tie = tie
        knot.spare = spare
        gather_up(knot)

    def weigh(self, key, weight):
        """Set the weight of a seat."""
        knot = self._knot(key)
        knot.load = weight
        gather_up(knot)

    def cut(self, row, place):
        """Make two rows of one: of the seats at places less than place, and of the others."""
        root = self._root(row)
        check_place(place, 0, many_of(root))
        first, second = halves(root, place)
        del self._roots[row]
        self._cuts += 1
        left = self._stand(first)
        return left, self._stand(second)

    def splice(self, left, right):
        """Make one row of two: the seats of the left one, then those of the right one."""
        first = self._root(left)
        second = self._root(right)
        if left == right:
            raise NoRow(right)
        del self._roots[left]
        del self._roots[right]
        self._splices += 1
        return self._stand(chained(first, second))

    @property
    def cuts(self):
        """How many rows were cut."""
        return self._cuts

    @property
    def splices(self):
        """How many pairs of rows were spliced."""
        return self._splices

    def __len__(self):
        return len(self._roots)

    def __contains__(self, key):
        return key in self._knots
