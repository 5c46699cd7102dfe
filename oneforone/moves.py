"""Moves: the kinds of an even and seen board that are defined on all values."""

from oneforone.bags import bags
from oneforone.checks import are_whole, check_full_bag, check_value, is_tuple
from oneforone.counters import is_sign
from oneforone.errors import InvalidMove, InvalidSign
from oneforone.failures import NoMove
from oneforone.short_rows import sign_rows
from oneforone.stages import seen_kinds


def moves(board):
    """The ascending list of all moves."""
    # In a seen board no kind has two changes with one value here, so the longest ones have each value once.
    whole = [kind for kind in seen_kinds(board) if len(kind) == board.many]
    return [tuple([change[1] for change in kind]) for kind in whole]


def is_move(board, value):
    """Whether it is a move."""
    found = moves(board)
    return is_tuple(value, board.many) and are_whole(value) and value in found


def mover(board, one, other):
    """The only move that leads the value `one` to the value `other`."""
    found = moves(board)
    check_value(one, board.many)
    check_value(other, board.many)
    for move in found:
        if move[one] == other:
            return move
    raise NoMove(one, other)


def circles_of(board):
    """The ascending list of the circles of values."""
    found = moves(board)
    circles = [sorted([move[value] for move in found]) for value in range(board.many)]
    return [circle for value, circle in enumerate(circles) if circle[0] == value]


def _led(bag, move):
    return tuple(sorted([move[value] for value in bag]))


def _check_move(board, move):
    if not is_move(board, move):
        raise InvalidMove(move)


def moved(board, bag, move):
    """The bag of the values to which the move leads the values of the bag."""
    seen_kinds(board)
    check_full_bag(board, bag)
    _check_move(board, move)
    return _led(bag, move)


def keeping(board):
    """The ascending list of the moves that keep every bag of the board."""
    found = moves(board)
    signs = dict(zip(bags(board.many, board.size), board.signs))
    return [move for move in found if all([signs[_led(bag, move)] == signs[bag] for bag in signs])]


def sign_moved(board, sign, move):
    """The sign behind a step from a value of a bag with the sign to the value to which the move leads it."""
    seen_kinds(board)
    if not is_sign(board, sign):
        raise InvalidSign(sign)
    _check_move(board, move)
    with_sign = [row for row in sign_rows(board).values() if sign in row]
    first = with_sign[0]
    return first[move[first.index(sign)]]


def _second(found):
    return found[1] if len(found) > 1 else None


def hiding(board):
    """The second move, or None."""
    return _second(moves(board))


def hiding_trades(board):
    """The second move that keeps every bag, or None."""
    return _second(keeping(board))
