"""Shapes of trees: the empty tuple, or a tuple (left, key, right)."""


def is_balanced(shape):
    """Judge whether at each knot the heights of the two subtrees differ by at most one."""
    return measure(shape)[1]


def shape_height(shape):
    """The height of a shape; 0 if it is empty."""
    return measure(shape)[0]


def measure(shape):
    """The height of a shape, and whether it is balanced."""
    if len(shape) == 0:
        return 0, True
    left, _, right = shape
    left_height, left_balanced = measure(left)
    right_height, right_balanced = measure(right)
    level = -1 <= left_height - right_height <= 1
    return max(left_height, right_height) + 1, left_balanced and right_balanced and level


def shape_keys(shape):
    """The keys of a shape in order."""
    if len(shape) == 0:
        return []
    left, key, right = shape
    return shape_keys(left) + [key] + shape_keys(right)


def least_seats(height):
    """The least number of seats of a balanced tree of this height."""
    least = 0
    following = 1
    for _ in range(height):
        least, following = following, least + following + 1
    return least


def height_bound(size):
    """The greatest height of a balanced tree of this many seats."""
    height = 0
    while least_seats(height + 1) <= size:
        height += 1
    return height
