"""Totals that do not depend on the order of things."""

from oneforone.bags import bags
from oneforone.boards import Board
from oneforone.checks import are_between, check_size, is_list, is_tuple
from oneforone.failures import Disordered
from oneforone.machines import first_things, parting, stand_behind


def disorder(total):
    """Things with unlike signs in two orders that differ by two neighbours, or None if there are none."""
    for stand, things in first_things(total).items():
        for a in range(total.many):
            for b in range(a):
                here, there = stand_behind(total, (a, b), stand), stand_behind(total, (b, a), stand)
                more = parting(total, total, here, there)
                if more is not None:
                    return things + (a, b) + more, things + (b, a) + more
    return None


def _are_things(total, value):
    return isinstance(value, tuple) and is_list(value, 0, 60) and are_between(value, 0, total.many - 1)


def _are_exchanged(one, other):
    """Whether the two are equal but for two neighbours that are exchanged."""
    places = [at for at, (value, beyond) in enumerate(zip(one, other)) if value != beyond]
    if len(one) != len(other) or len(places) != 2 or places[0] + 1 != places[1]:
        return False
    first, second = places
    return one[first] == other[second] and one[second] == other[first]


def is_disorder(total, value):
    """Whether it is things with unlike signs in two orders that differ by two neighbours."""
    if not is_tuple(value, 2) or not all([_are_things(total, things) for things in value]):
        return False
    one, other = value
    return _are_exchanged(one, other) and total.sign(one) != total.sign(other)


def check_orderless(total):
    """Raise Disordered if the total is not orderless."""
    witness = disorder(total)
    if witness is not None:
        raise Disordered(witness)


def board_at(total, size):
    """The board of the size in which the sign of a bag is that of its values as things."""
    check_size(size, 1, 6)
    check_orderless(total)
    return Board(total.many, size, [total.sign(bag) for bag in bags(total.many, size)])
