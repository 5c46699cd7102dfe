"""What the functions about even boards of size 2 and more ask for ahead of all other errors."""

from oneforone.blocks import kinds, unseen
from oneforone.failures import NotSeen, TooSmall


def check_large(board):
    """Raise TooSmall for a board of size 1."""
    if board.size == 1:
        raise TooSmall(board.size)


def large_kinds(board):
    """The kinds of an even board of size 2 and more."""
    check_large(board)
    return kinds(board)


def seen_kinds(board):
    """The kinds of an even and seen board of size 2 and more."""
    found = large_kinds(board)
    witness = unseen(board)
    if witness is not None:
        raise NotSeen(witness)
    return found
