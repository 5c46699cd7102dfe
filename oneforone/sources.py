"""Sources of readers: boards, dials and orderless totals."""

from oneforone.boards import Board
from oneforone.checks import check_size, is_set
from oneforone.dials import Dials, dials_board
from oneforone.errors import InvalidSize
from oneforone.orders import board_at, disorder
from oneforone.totals import Total


def is_source(value):
    """Whether it is a Board, a Dials or an orderless Total."""
    if isinstance(value, Total):
        return disorder(value) is None
    return isinstance(value, (Board, Dials))


def is_source_for(value, size):
    """Whether it is a source that has signs for bags of this size."""
    return is_source(value) and (not isinstance(value, Board) or value.size == size)


def may_ask(source, stints, lot):
    """Whether it is a lot of so many stints that the source has signs for."""
    if not is_set(lot, stints, 0, 6):
        return False
    return not isinstance(source, Board) or len(lot) == source.size


def board_of(source, size):
    """The board that the source is for bags of this size."""
    check_size(size, 1, 6)
    if isinstance(source, Dials):
        return dials_board(source, size)
    if isinstance(source, Total):
        return board_at(source, size)
    if source.size != size:
        raise InvalidSize(size)
    return source


def sign_of(source, bag):
    """The sign of a bag: an integer, or the tuple of its sums for dials."""
    if isinstance(source, Dials):
        return source.sum_of(bag)
    return source.sign(bag)
