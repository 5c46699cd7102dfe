"""Walks from bag to bag, and logs: the signs that are shown on the way."""

from oneforone.bags import added, removed
from oneforone.checks import are_between, check_full_bag, is_change, is_list
from oneforone.counters import index_between, is_sign, sign_behind
from oneforone.errors import InvalidKinds, InvalidLog, InvalidSign, InvalidSteps
from oneforone.failures import NoKind, NoStep, NotThere
from oneforone.short_rows import sign_rows
from oneforone.stages import large_kinds


def walk(board, bag, steps):
    """The signs of the bags on the way from a bag by steps that are given by their changes."""
    large_kinds(board)
    check_full_bag(board, bag)
    if not is_list(steps, 0, 60) or not all([is_change(board, step) for step in steps]):
        raise InvalidSteps(steps)
    present = bag
    signs = [board.sign(bag)]
    for at, (old, new) in enumerate(steps):
        if old not in present:
            raise NotThere(at)
        present = added(removed(present, old), new)
        signs.append(board.sign(present))
    return tuple(signs)


def log_kinds(board, signs):
    """The indices of the kinds of the steps between the signs of a log."""
    found = large_kinds(board)
    if not is_list(signs, 1, 61) or not all([is_sign(board, sign) for sign in signs]):
        raise InvalidLog(signs)
    rows = list(sign_rows(board).values())
    indices = []
    for at, (sign, other) in enumerate(zip(signs, signs[1:])):
        index = index_between(rows, found, sign, other)
        if index is None:
            raise NoKind(at)
        indices.append(index)
    return tuple(indices)


def log_signs(board, sign, kinds):
    """The log that begins with a sign and goes on by steps of the kinds."""
    found = large_kinds(board)
    if not is_sign(board, sign):
        raise InvalidSign(sign)
    if not is_list(kinds, 0, 60) or not are_between(kinds, 0, len(found) - 1):
        raise InvalidKinds(kinds)
    rows = list(sign_rows(board).values())
    signs = [sign]
    for kind in kinds:
        behind = sign_behind(rows, signs[-1], found[kind])
        if behind is None:
            raise NoStep(signs[-1], kind)
        signs.append(behind)
    return tuple(signs)
