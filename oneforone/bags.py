"""Bags: tuples of values in ascending order."""

from math import comb

from oneforone.checks import check_size, check_value, check_values, is_bag
from oneforone.errors import InvalidBag
from oneforone.failures import NotInBag


def bags(values, size):
    """The ascending list of all bags of a size of a number of values."""
    check_values(values)
    check_size(size, 0, 6)
    found = [()]
    for _ in range(size):
        found = [(*bag, value) for bag in found for value in range(bag[-1] if bag else 0, values)]
    return found


def count_bags(values, size):
    """How many bags of a size of a number of values there are."""
    check_values(values)
    check_size(size, 0, 6)
    return comb(values + size - 1, size)


def bag_index(values, bag):
    """The index of a bag in the list of all bags of its size."""
    check_values(values)
    if not is_bag(bag, values, 0, 6):
        raise InvalidBag(bag)
    return bags(values, len(bag)).index(bag)


def _check_bag_and_value(bag, value):
    if not is_bag(bag, 4, 0, 6):
        raise InvalidBag(bag)
    check_value(value, 4)


def added(bag, value):
    """The bag that has the value once more."""
    _check_bag_and_value(bag, value)
    return tuple(sorted([*bag, value]))


def removed(bag, value):
    """The bag that has the value once less."""
    _check_bag_and_value(bag, value)
    if value not in bag:
        raise NotInBag(value)
    at = bag.index(value)
    return bag[:at] + bag[at + 1:]
