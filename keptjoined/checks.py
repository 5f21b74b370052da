"""Checks of houses and lines that several modules share (steps 1 to 3 of the order of errors)."""

from keptjoined.errors import NoHouse, SelfLine
from keptjoined.names import check_name


def check_names(words):
    """BadName for the first word that is not a name."""
    for word in words:
        check_name(word)


def check_stand(houses, words):
    """NoHouse for the first word that is none of the houses."""
    for word in words:
        if word not in houses:
            raise NoHouse(word)


def check_line(houses, line, a, b):
    """The form of a line and of its ends, then the houses, then that the ends differ."""
    check_names([line, a, b])
    check_stand(houses, [a, b])
    if a == b:
        raise SelfLine(line)
