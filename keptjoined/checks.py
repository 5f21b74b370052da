"""Checks of houses and lines that several modules share, in the order of errors."""

from keptjoined.errors import NoHouse, NoLine, SelfLine, Taken, TooMany
from keptjoined.names import MOST_LINES, check_name


def check_names(words):
    """BadName for the first word that is not a name."""
    for word in words:
        check_name(word)


def check_stand(houses, words):
    """NoHouse for the first word that is none of the houses."""
    for word in words:
        if word not in houses:
            raise NoHouse(word)


def check_known(houses, words):
    """The form of each word, then that each is one of the houses."""
    check_names(words)
    check_stand(houses, words)


def check_line(houses, line, a, b):
    """The form of a line and of its ends, then the houses, then that the ends differ."""
    check_names([line, a, b])
    check_stand(houses, [a, b])
    if a == b:
        raise SelfLine(line)


def check_new_line(houses, standing, line, a, b):
    """All five steps for a line that is to be added to those that stand."""
    check_line(houses, line, a, b)
    if line in standing:
        raise Taken(line)
    if len(standing) >= MOST_LINES:
        raise TooMany(MOST_LINES)


def check_line_stands(standing, line):
    """BadName, then NoLine for a line that is none of those that stand."""
    check_name(line)
    if line not in standing:
        raise NoLine(line)
