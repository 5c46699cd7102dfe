"""Desks that are read from the lines of their deeds."""

from oneforone.checks import is_from, is_list
from oneforone.desk import Desk
from oneforone.errors import InvalidLine
from oneforone.plays import is_deed
from oneforone.words import written


def _read_deed(line):
    """The deed that has this line."""
    if not isinstance(line, str):
        raise InvalidLine(line)
    words = line.split(" ")
    numbers = [written(word) for word in words[1:]]
    deed = (words[0], *numbers)
    if not is_deed(deed) or not all([is_from(number, 0) for number in numbers]):
        raise InvalidLine(line)
    return deed


def read_desk(dials, rows, values, inside, lines, held=False):
    """A new desk behind the deeds of the lines."""
    desk = Desk(dials, rows, values, inside, held)
    if not is_list(lines):
        raise InvalidLine(lines)
    return desk.tried([_read_deed(line) for line in lines])
