"""Kinds by index: the counter of an even board of size 2 and more."""

from oneforone.blocks import blocks, even
from oneforone.checks import check_change, is_between, is_change, is_list, is_whole
from oneforone.errors import InvalidKind, InvalidSign
from oneforone.failures import NoStep
from oneforone.short_rows import sign_rows
from oneforone.stages import check_large, large_kinds


def _check_kind(found, kind):
    if not is_between(kind, 0, len(found) - 1):
        raise InvalidKind(kind)


def is_sign(board, value):
    """Whether it is a sign of the board."""
    return is_whole(value) and value in board.signs


def _index_with(found, change):
    """The index of the kind that has the change."""
    for index, kind in enumerate(found):
        if change in kind:
            return index
    return None


def kind_of(board, change):
    """The index of the kind that has the change."""
    found = large_kinds(board)
    check_change(board, change)
    return _index_with(found, change)


def same_kind(board, one, other):
    """Whether two changes are in one kind."""
    found = large_kinds(board)
    check_change(board, one)
    check_change(board, other)
    return _index_with(found, one) == _index_with(found, other)


def sign_behind(rows, sign, kind):
    """The sign behind the steps from a sign by the changes of a kind, or None if there is no such step."""
    for row in rows:
        for old, new in kind:
            if row[old] == sign:
                return row[new]
    return None


def index_between(rows, found, sign, other):
    """The index of the kind of the steps from one sign to another one, or None if there is no such step."""
    for row in rows:
        if sign in row and other in row:
            return _index_with(found, (row.index(sign), row.index(other)))
    return None


def next_sign(board, sign, kind):
    """The sign of the bags to which the steps of the kind lead from the bags with the sign."""
    found = large_kinds(board)
    if not is_sign(board, sign):
        raise InvalidSign(sign)
    _check_kind(found, kind)
    behind = sign_behind(list(sign_rows(board).values()), sign, found[kind])
    if behind is None:
        raise NoStep(sign, kind)
    return behind


def kind_between(board, sign, other):
    """The index of the kind of the steps from the bags with one sign to those with another one, or None."""
    found = large_kinds(board)
    for given in (sign, other):
        if not is_sign(board, given):
            raise InvalidSign(given)
    return index_between(list(sign_rows(board).values()), found, sign, other)


def inverse(board, kind):
    """The index of the kind whose changes lead back those of the kind."""
    found = large_kinds(board)
    _check_kind(found, kind)
    here, there = found[kind][0]
    return _index_with(found, (there, here))


def composed(board, kind, other):
    """The index of the kind of the changes of `kind` with those of `other` behind them, or None."""
    found = large_kinds(board)
    _check_kind(found, kind)
    _check_kind(found, other)
    for here, between in found[kind]:
        for start, there in found[other]:
            if start == between:
                return _index_with(found, (here, there))
    return None


def _are_lists_of_changes(board, value):
    if not is_list(value) or not all([is_list(part) for part in value]):
        return False
    return all([is_change(board, change) for part in value for change in part])


def is_counter(board, value):
    """Whether it is a counter of the board."""
    check_large(board)
    if not even(board) or not _are_lists_of_changes(board, value):
        return False
    return sorted([sorted(part) for part in value]) == blocks(board)
