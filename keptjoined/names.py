"""Names, integers in a range, and the bounds of the program."""

from keptjoined.errors import BadName, BadNumber, Taken, TooMany

MOST_HOUSES = 32
MOST_LINES = 96
MOST_DEEDS = 240
MOST_WEIGHT = 999999
LONGEST_NAME = 12


def is_name(word):
    """Judge a value of any kind: 1 to 12 lowercase letters and digits, a letter first."""
    if not isinstance(word, str) or not 1 <= len(word) <= LONGEST_NAME:
        return False
    return "a" <= word[0] <= "z" and all(["a" <= c <= "z" or "0" <= c <= "9" for c in word])


def check_name(word):
    """Return the name; BadName if it is not one."""
    if not is_name(word):
        raise BadName(word)
    return word


def is_whole(number):
    """True for an integer that is not a bool."""
    return isinstance(number, int) and not isinstance(number, bool)


def check_number(number, least, most):
    """Return the integer; BadNumber if it is none or is not from least to most."""
    if not is_whole(number) or not least <= number <= most:
        raise BadNumber(number)
    return number


def check_houses(houses):
    """Return the names of new houses in ascending order, checked as if added one after another."""
    made = {}
    for house in houses:
        check_name(house)
        if house in made:
            raise Taken(house)
        if len(made) >= MOST_HOUSES:
            raise TooMany(MOST_HOUSES)
        made[house] = True
    return sorted(list(made))


def ordered(a, b):
    """The tuple of two names in ascending order."""
    if b < a:
        return b, a
    return a, b


def top_level(count):
    """The greatest k with 2 ** k <= count; 0 for a count of 0."""
    if count == 0:
        return 0
    return count.bit_length() - 1


def most_houses(count, level):
    """The count divided by 2 ** level, rounded down."""
    return count >> level
