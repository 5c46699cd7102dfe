"""Shadows: the finest even board among those that a board tells no less than."""

from oneforone.bags import added
from oneforone.blocks import even, uneven
from oneforone.boards import Board, count_board, like_bags, renamed, tells_no_less
from oneforone.checks import is_form, is_full_bag, is_list, is_tuple


def _joined_board(board, one, other):
    """The board with the bags that are like the bag `other` made like the bag `one`, too."""
    kept, gone = board.sign(one), board.sign(other)
    return Board(board.many, board.size, [kept if sign == gone else sign for sign in board.signs])


def _forced(why):
    """The two bags that a reason makes like."""
    third, fourth, beyond = why[2], why[3], why[5]
    return added(third, beyond[0]), added(fourth, beyond[1])


def _closed(board):
    """The board of the shadow, and the reasons in the order in which they make bags like."""
    whys = []
    present = board
    why = uneven(present)
    while why is not None:
        whys.append(why)
        one, other = _forced(why)
        present = _joined_board(present, one, other)
        why = uneven(present)
    return present, whys


def shadow(board):
    """The finest even board that the board tells no less than, renamed."""
    present, _ = _closed(board)
    return renamed(present)


def closing(board):
    """Any closing of the board."""
    entries = [(like[0], bag, None) for like in like_bags(board) for bag in like[1:]]
    _, whys = _closed(board)
    return entries + [_forced(why) + (why,) for why in whys]


def _is_entry(board, value):
    if not is_tuple(value, 3) or not is_full_bag(board, value[0]) or not is_full_bag(board, value[1]):
        return False
    return value[2] is None or is_form(board, value[2], 4, 2)


def _follows(board, present, entry):
    """Whether the entry is right on a board in which just the bags are like that the entries ahead join."""
    one, other, why = entry
    if why is None:
        return board.sign(one) == board.sign(other)
    first, second, third, fourth, change, beyond = why
    pairs = ((first, second, change), (first, second, beyond), (third, fourth, change))
    joined = [present.sign(added(a, step[0])) == present.sign(added(b, step[1])) for a, b, step in pairs]
    return all(joined) and _forced(why) == (one, other)


def is_closing(board, value):
    """Whether it is a closing of the board."""
    if not is_list(value) or not all([_is_entry(board, entry) for entry in value]):
        return False
    present = count_board(board.many, board.size)
    for entry in value:
        if not _follows(board, present, entry):
            return False
        present = _joined_board(present, entry[0], entry[1])
    return tells_no_less(board, present) and even(present)
