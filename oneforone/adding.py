"""Boards whose signs are sums: numbers of signs and kinds, and tables of sums."""

from itertools import permutations

from oneforone.bags import bags
from oneforone.boards import Board
from oneforone.checks import check_full_bag, check_values
from oneforone.moves import mover
from oneforone.stages import large_kinds, seen_kinds

# For 1 to 4 things the commutative groups of so many, each given by the moduli of the rests that are added.
_GROUPS = (((),), ((2,),), ((3,),), ((2, 2), (4,)))


def number_of_signs(board):
    """The number of different signs of the board."""
    return len(set(board.signs))


def number_of_kinds(board):
    """The number of kinds of an even board of size 2 and more."""
    return len(large_kinds(board))


def adding(board):
    """The table of the sums of two values."""
    return [list(mover(board, 0, value)) for value in range(board.many)]


def added_up(board, bag):
    """The sum of the values of the bag by the table of sums."""
    seen_kinds(board)
    check_full_bag(board, bag)
    table = adding(board)
    total = 0
    for value in bag:
        total = table[total][value]
    return total


def _rests(moduli):
    """All tuples of a rest for each modulus, the one with zeros alone first."""
    found = [()]
    for modulus in moduli:
        found = [(*rests, rest) for rests in found for rest in range(modulus)]
    return found


def _sum_signs(moduli, order):
    """The signs of the board of sums of two values, where order[a] is the rests that the value a stands for."""
    signs = []
    for one, other in bags(len(order), 2):
        total = [(a + b) % modulus for a, b, modulus in zip(order[one], order[other], moduli)]
        signs.append(order.index(tuple(total)))
    return tuple(signs)


def sum_boards(values):
    """The ascending list of the boards of size 2 whose signs are the sums in a commutative group with the zero 0."""
    check_values(values)
    found = []
    for moduli in _GROUPS[values - 1]:
        zero, *others = _rests(moduli)
        for order in permutations(others):
            found.append(_sum_signs(moduli, [zero, *order]))
    return [Board(values, 2, list(signs)) for signs in sorted(set(found))]
