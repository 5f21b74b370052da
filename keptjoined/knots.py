"""Balanced trees of knots; each knot holds a seat and what is kept of the seats below it.

An empty tree is None. At each knot the heights of the two subtrees differ by at most one.
"""


class Knot:
    """One seat, and the sums and least marks of the subtree of which it is the root."""

    def __init__(self, seat):
        self.key, self.load, self.tie, self.spare = seat
        self.left = None
        self.right = None
        # The knot above, and for a root None and the number of its row.
        self.above = None
        self.number = None
        self.tall = 1
        self.many = 1
        self.total = self.load
        self.low_tie = self.tie
        self.low_spare = self.spare

    def seat(self):
        """The seat as it is now."""
        return self.key, self.load, self.tie, self.spare


def gather(knot):
    """Make anew what a knot keeps of its subtree."""
    left = whole(knot.left)
    right = whole(knot.right)
    knot.tall = max(tall_of(knot.left), tall_of(knot.right)) + 1
    knot.many = many_of(knot.left) + many_of(knot.right) + 1
    knot.total, knot.low_tie, knot.low_spare = merged(merged(left, own(knot)), right)


def tall_of(tree):
    """The height of a tree."""
    return 0 if tree is None else tree.tall


def many_of(tree):
    """The number of seats of a tree."""
    return 0 if tree is None else tree.many


def own(knot):
    """The weight and the marks of the knot's own seat."""
    return knot.load, knot.tie, knot.spare


def whole(tree):
    """The sum of the weights, the least tie mark and the least spare mark of a tree."""
    if tree is None:
        return 0, None, None
    return tree.total, tree.low_tie, tree.low_spare


def merged(first, second):
    """The sum and least marks of two ranges of seats together."""
    return first[0] + second[0], least_mark(first[1], second[1]), least_mark(first[2], second[2])


def least_mark(first, second):
    """The lesser of two marks, either of which may be None."""
    if first is None:
        return second
    if second is None:
        return first
    return min(first, second)


def hang(left, knot, right):
    """Hang two trees below a knot, whatever their heights; returns the knot."""
    knot.left = left
    knot.right = right
    if left is not None:
        left.above = knot
    if right is not None:
        right.above = knot
    gather(knot)
    return knot


def lean(left, knot, right):
    """Hang two trees below a knot, and turn it if their heights differ by two."""
    if tall_of(left) > tall_of(right) + 1:
        inner = left.right
        if tall_of(left.left) >= tall_of(inner):
            return hang(left.left, left, hang(inner, knot, right))
        return hang(hang(left.left, left, inner.left), inner, hang(inner.right, knot, right))
    if tall_of(right) > tall_of(left) + 1:
        inner = right.left
        if tall_of(right.right) >= tall_of(inner):
            return hang(hang(left, knot, inner), right, right.right)
        return hang(hang(left, knot, inner.left), inner, hang(inner.right, right, right.right))
    return hang(left, knot, right)


def bind(left, knot, right):
    """The tree of a tree, a knot and a tree in this order, whatever their heights."""
    # Going down the higher tree raises the result by at most one, so lean never meets more than two.
    if tall_of(left) > tall_of(right) + 1:
        return lean(left.left, left, bind(left.right, knot, right))
    if tall_of(right) > tall_of(left) + 1:
        return lean(bind(left, knot, right.left), right, right.right)
    return hang(left, knot, right)


def halves(tree, place):
    """Two trees: of the seats at places less than place, and of the others."""
    if tree is None:
        return None, None
    left, right = tree.left, tree.right
    if place <= many_of(left):
        first, rest = halves(left, place)
        return first, bind(rest, tree, right)
    rest, second = halves(right, place - many_of(left) - 1)
    return bind(left, tree, rest), second


def chained(left, right):
    """The tree of the seats of one tree and then those of another."""
    if left is None:
        return right
    head, last = halves(left, left.many - 1)
    return bind(head, last, right)


def grown(knots):
    """A balanced tree of these knots in order."""
    if knots == []:
        return None
    middle = len(knots) // 2
    return hang(grown(knots[:middle]), knots[middle], grown(knots[middle + 1:]))


def knots_of(tree):
    """The knots of a tree in order."""
    if tree is None:
        return []
    return knots_of(tree.left) + [tree] + knots_of(tree.right)


def shape_of(tree):
    """The shape of a tree."""
    if tree is None:
        return ()
    return shape_of(tree.left), tree.key, shape_of(tree.right)


def knot_at(tree, place):
    """The knot at a place of a tree that has this place."""
    before = many_of(tree.left)
    if place < before:
        return knot_at(tree.left, place)
    if place > before:
        return knot_at(tree.right, place - before - 1)
    return tree


def range_of(tree, start, stop):
    """The sum and least marks of the places from start to stop - 1; the ends may lie outside the tree."""
    if tree is None or stop <= 0 or start >= tree.many:
        return 0, None, None
    if start <= 0 and stop >= tree.many:
        return whole(tree)
    before = many_of(tree.left)
    left = range_of(tree.left, start, stop)
    right = range_of(tree.right, start - before - 1, stop - before - 1)
    if start <= before < stop:
        left = merged(left, own(tree))
    return merged(left, right)


def root_of(knot):
    """The root of the tree that holds a knot."""
    while knot.above is not None:
        knot = knot.above
    return knot


def place_in(knot):
    """The place of a knot in its tree."""
    place = many_of(knot.left)
    while knot.above is not None:
        above = knot.above
        # No two knots of a yard are equal: a knot is equal to itself alone.
        if above.right == knot:
            place += many_of(above.left) + 1
        knot = above
    return place


def gather_up(knot):
    """Make anew what the knot and all knots above it keep."""
    gather(knot)
    while knot.above is not None:
        knot = knot.above
        gather(knot)
