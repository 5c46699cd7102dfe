"""Boards that count each value up to a cap, and sharp dials with the fewest rests."""

from oneforone.bags import bags
from oneforone.boards import Board
from oneforone.checks import check_size, check_values, is_from, is_list
from oneforone.dials import Dials
from oneforone.errors import InvalidCaps
from oneforone.ranks import ranks

# The marks of so many values are the first ones: no two pairs of them have one difference on a dial of such rests.
_RESTS = (2, 3, 7, 13)
_MARKS = ((0,), (0, 1), (0, 1, 3), (0, 1, 3, 9))


def _check_caps(caps):
    if not is_list(caps, 1, 4) or not all([is_from(cap, 1) for cap in caps]):
        raise InvalidCaps(caps)


def caps_board(caps, size):
    """The board whose signs are the places of the tuples of how often a bag has each value, up to its cap."""
    _check_caps(caps)
    check_size(size, 1, 6)
    counts = [tuple([min(bag.count(value), cap) for value, cap in enumerate(caps)]) for bag in bags(len(caps), size)]
    return Board(len(caps), size, ranks(counts))


def least_caps(caps):
    """The sum of the two least caps, 7 for one value."""
    _check_caps(caps)
    return sum(sorted(caps)[:2]) if len(caps) > 1 else 7


def cheap_sharp(values):
    """One round dial with as few rests as there can be for sharp boards of so many values."""
    check_values(values)
    return Dials([_RESTS[values - 1]], [[mark] for mark in _MARKS[values - 1]])
