"""Tables that show what a board does not tell."""

from oneforone.blocks import uneven, unsharp
from oneforone.checks import is_tuple, unchanged
from oneforone.failures import EvenBoard, Rigid, SharpBoard
from oneforone.matches import matches_with
from oneforone.numbers import check_set, loosener
from oneforone.scenes import alike, is_history, signs_of
from oneforone.stages import seen_kinds
from oneforone.tables import is_renewing, renew_rows, renew_scene


def open_table(board, values):
    """Any script and two alike histories: row 0 shows the values in the one, and another one each time in the other."""
    seen_kinds(board)
    found = loosener(board, values)
    if found is None:
        raise Rigid(values)
    # In an even and seen board the match that has one change of a loosener has them all, and each changes its value.
    bag, beyond = matches_with(board, found[0])[0]
    here = [change[0] for change in found]
    there = [change[1] for change in found]
    return [0] * (len(found) - 1), (here[0],) + bag + tuple(here[1:]), (there[0],) + beyond + tuple(there[1:])


def is_open_table(board, values, value):
    """Whether it is an open table of the set of values."""
    seen_kinds(board)
    check_set(board, values)
    if not is_tuple(value, 3) or not is_renewing(board.size, value[0]):
        return False
    script, one, other = value
    scene = renew_scene(board, board.size, script)
    if not is_history(scene, one) or not is_history(scene, other):
        return False
    stints = renew_rows(board.size, script)[0]
    unlike = all([one[stint] != other[stint] for stint in stints])
    return [one[stint] for stint in stints] == list(values) and unlike and alike(scene, one, other)


def _short_scene(board):
    return renew_scene(board, board.size, [0])


def _history(bag, first, second):
    """The history of the short scene in which row 0 shows two values beside a bag."""
    return (first,) + bag + (second,)


def _two_histories(one, other, change, beyond):
    return _history(one, change[0], beyond[0]), _history(other, change[1], beyond[1])


def uneven_table(board):
    """Any uneven table of the board."""
    witness = uneven(board)
    if witness is None:
        raise EvenBoard()
    one, other, third, fourth, change, beyond = witness
    return _two_histories(one, other, change, beyond) + _two_histories(third, fourth, change, beyond)


def unsharp_table(board):
    """Any unsharp table of the board."""
    witness = unsharp(board)
    if witness is None:
        raise SharpBoard()
    one, other, change, beyond = witness
    return _two_histories(one, other, change, beyond)


def _changes(one, other):
    """The changes of the two stints of row 0, the first and the last one."""
    return [(one[0], other[0]), (one[-1], other[-1])]


def _are_histories(scene, value, many):
    return is_tuple(value, many) and all([is_history(scene, history) for history in value])


def is_uneven_table(board, value):
    """Whether it is an uneven table of the board."""
    scene = _short_scene(board)
    if not _are_histories(scene, value, 4):
        return False
    one, other, third, fourth = value
    before, after = signs_of(scene, third)[0], signs_of(scene, fourth)[0]
    parted = before[0] == after[0] and before[1] != after[1]
    return _changes(one, other) == _changes(third, fourth) and alike(scene, one, other) and parted


def is_unsharp_table(board, value):
    """Whether it is an unsharp table of the board."""
    scene = _short_scene(board)
    if not _are_histories(scene, value, 2) or not alike(scene, value[0], value[1]):
        return False
    changes = _changes(value[0], value[1])
    return changes[0] != changes[1] and not all([unchanged(change) for change in changes])
