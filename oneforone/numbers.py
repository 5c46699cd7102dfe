"""How many values a row must show until it is known."""

from oneforone.blocks import blocks
from oneforone.checks import is_change, is_set, is_tuple, unchanged
from oneforone.errors import InvalidSet


def check_set(board, values):
    """Raise InvalidSet unless it is a set of values of the board."""
    if not is_set(values, board.many):
        raise InvalidSet(values)


def _changes_from(block, value):
    """The changes of the block that have the value here, those first that are not unchanged."""
    found = [change for change in block if change[0] == value]
    return sorted(found, key=unchanged)


def _loosener(parts, values):
    """Changes from each of the values, in one part and not all unchanged, or None."""
    for part in parts:
        found = [_changes_from(part, value) for value in values]
        if all(found):
            first = tuple([each[0] for each in found])
            if not all([unchanged(change) for change in first]):
                return first
    return None


def loosener(board, values):
    """Any loosener of a set of values, or None if it is rigid."""
    check_set(board, values)
    return _loosener(blocks(board), values)


def is_loosener(board, values, value):
    """Whether it is a loosener of a set of values."""
    check_set(board, values)
    if not is_tuple(value, len(values)) or not all([is_change(board, change) for change in value]):
        return False
    if [change[0] for change in value] != list(values) or all([unchanged(change) for change in value]):
        return False
    return any([all([change in block for change in value]) for block in blocks(board)])


def _sets(values):
    """All sets of some of so many values, with the empty one."""
    found = [[]]
    for value in range(values):
        found = found + [chosen + [value] for chosen in found]
    return found


def telling_number(board):
    """The least number of values such that all sets of so many are rigid, or None if that of all values is not."""
    parts = blocks(board)
    loose = [len(values) for values in _sets(board.many) if values and _loosener(parts, values) is not None]
    most = max(loose, default=0)
    return most + 1 if most < board.many else None
