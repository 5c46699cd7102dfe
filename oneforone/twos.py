"""Boards of two values: the number of values 1, or a rest of it."""

from math import gcd

from oneforone.blocks import sharp
from oneforone.boards import Board
from oneforone.checks import check_size, is_form, is_from, unchanged
from oneforone.errors import InvalidModulus
from oneforone.failures import NotTwo
from oneforone.short_rows import match_of_rows, sign_rows, unlike_matches
from oneforone.stages import check_large


def _check_two(board):
    if board.many != 2:
        raise NotTwo(board.many)


def distances(board):
    """The ascending list of all d from 1 on such that two like bags have d more and d fewer values 1."""
    _check_two(board)
    # With two values the index of a bag is its number of values 1.
    signs = board.signs
    return [d for d in range(1, len(signs)) if any([sign == after for sign, after in zip(signs, signs[d:])])]


def divisor(board):
    """The greatest common divisor of the distances, 0 if there are none."""
    found = 0
    for distance in distances(board):
        found = gcd(found, distance)
    return found


def rests(size, modulus):
    """The board of two values in which the sign is the number of values 1, or its rest by the modulus."""
    check_size(size, 1, 6)
    if not is_from(modulus, 0):
        raise InvalidModulus(modulus)
    return Board(2, size, [number % modulus if modulus else number for number in range(size + 1)])


def even_twos(size):
    """The list of all even and seen boards of two values and this size, renamed."""
    check_size(size, 2, 6)
    return [rests(size, modulus) for modulus in list(range(2, size + 1)) + [0]]


def sort_of(board):
    """The word "sharp", "turning" or "loose" for the board."""
    _check_two(board)
    check_large(board)
    if sharp(board):
        return "sharp"
    return "turning" if loose_match(board) is None else "loose"


def loose_match(board):
    """Two short bags, an unchanged change of their match and another one that is not, or None."""
    _check_two(board)
    for match, pair in unlike_matches(board).items():
        still = [change for change in match if unchanged(change)]
        turned = [change for change in match if not unchanged(change)]
        if still and turned:
            return pair + (still[0], turned[0])
    return None


def is_loose_match(board, value):
    """Whether it is two short bags, an unchanged change of their match and another one that is not."""
    _check_two(board)
    if not is_form(board, value, 2, 2):
        return False
    one, other, change, beyond = value
    rows = sign_rows(board)
    match = match_of_rows(rows[one], rows[other])
    return change in match and beyond in match and unchanged(change) and not unchanged(beyond)


def turning_match(board):
    """Two short bags whose match is just the two changes that are not unchanged, or None."""
    _check_two(board)
    return unlike_matches(board).get(((0, 1), (1, 0)))
