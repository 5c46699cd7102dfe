"""Strips and bands that are pressed flat: which places lie on one another, and what that tells."""

from math import gcd

from oneforone.checks import are_between, is_between, is_list
from oneforone.errors import InvalidAxes, InvalidCreases, InvalidLength, InvalidPlace


def _check_length(length, least):
    if not is_between(length, least, 12):
        raise InvalidLength(length)


def _are_unlike(value, least, most):
    """Whether it is a list of 1 to 3 unlike integers from `least` to `most`."""
    return is_list(value, 1, 3) and are_between(value, least, most) and len(set(value)) == len(value)


def _check_strip(length, creases):
    _check_length(length, 2)
    if not _are_unlike(creases, 1, length - 1):
        raise InvalidCreases(creases)


def _partner(length, crease, place):
    """The place that lies on this one at the crease, or None if it lies alone."""
    other = 2 * crease - 1 - place
    return other if 0 <= other < length else None


def _lot(place, partner):
    """The lot of the two places, or of the one alone."""
    return [place] if partner is None or partner == place else sorted([place, partner])


def _unlike_lots(lots):
    """The ascending list of these lots, each once."""
    return sorted([lot for at, lot in enumerate(lots) if lot not in lots[:at]])


def strip_lots(length, creases):
    """The lots of the creases, one crease after another: places that lie on one another, or alone."""
    _check_strip(length, creases)
    found = []
    for crease in creases:
        found.extend(_unlike_lots([_lot(place, _partner(length, crease, place)) for place in range(length)]))
    return found


def _check_way(length, creases, place):
    _check_strip(length, creases)
    if len(creases) != 2:
        raise InvalidCreases(creases)
    if not is_between(place, 0, length - 1):
        raise InvalidPlace(place)


def strip_way(length, creases, place):
    """Any strip way of the two creases to the place."""
    _check_way(length, creases, place)
    crease, other = creases
    way = [place]
    while True:
        partner = _partner(length, crease, way[0])
        if partner is None:
            return way
        way.insert(0, partner)
        crease, other = other, crease


def _is_way(length, first, second, way):
    """Whether the way begins with a place that lies alone at the first crease, and goes on by the second one."""
    if _partner(length, first, way[0]) is not None:
        return False
    crease, other = second, first
    for place, after in zip(way, way[1:]):
        if _partner(length, crease, place) != after:
            return False
        crease, other = other, crease
    return True


def is_strip_way(length, creases, place, value):
    """Whether it is a strip way of the two creases to the place."""
    _check_way(length, creases, place)
    if not is_list(value, 1) or not are_between(value, 0, length - 1) or value[-1] != place:
        return False
    one, other = creases
    return _is_way(length, one, other, value) or _is_way(length, other, one, value)


def _check_band(length, axes):
    _check_length(length, 3)
    if not _are_unlike(axes, 0, length - 1):
        raise InvalidAxes(axes)


def band_lots(length, axes):
    """The lots of the axes, one axis after another: places that lie on one another, or alone."""
    _check_band(length, axes)
    found = []
    for axis in axes:
        found.extend(_unlike_lots([_lot(place, (axis - place) % length) for place in range(length)]))
    return found


def band_told(length, one, other):
    """Whether the lots of two axes tell all places."""
    _check_band(length, [one, other])
    common = gcd(length, abs(other - one))
    return common == 1 or (common == 2 and one % 2 == 0)


def band_rounds(length, one, other):
    """How many rounds of places there are that the lots of two axes leave open."""
    _check_band(length, [one, other])
    common = gcd(length, abs(other - one))
    return len([a for b in range(common) for a in range(b) if (a + b - one) % common == 0])
