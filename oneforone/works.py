"""Queues of works, and the lots of those that come first."""

from oneforone.checks import are_between, check_size, is_list
from oneforone.errors import InvalidQueues


def _check(queues, size):
    if not is_list(queues, 1, 4) or not are_between(queues, 1, 6) or sum(queues) > 12:
        raise InvalidQueues(queues)
    check_size(size, 0, 6)


def _first_works(queues, size):
    found = [[]]
    begun = 0
    for many in queues:
        heads = [list(range(begun, begun + taken)) for taken in range(many + 1)]
        found = [lot + head for lot in found for head in heads]
        begun += many
    return sorted([lot for lot in found if len(lot) == size])


def first_works(queues, size):
    """The ascending list of all lots of so many works that have all works ahead of theirs in the queues."""
    _check(queues, size)
    return _first_works(queues, size)


def never_first(queues, size):
    """The ascending list of the works that are in none of these lots."""
    _check(queues, size)
    lots = _first_works(queues, size)
    return [work for work in range(sum(queues)) if not any([work in lot for lot in lots])]
