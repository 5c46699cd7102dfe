"""Sum shadows: the bags that no sum tells apart whose like bags have equal sums."""

from oneforone.bags import bags
from oneforone.boards import Board, like_bags
from oneforone.checks import check_full_bag, is_full_bag, is_list, is_tuple, is_whole
from oneforone.dials import Dials
from oneforone.failures import NoMixture
from oneforone.lattices import lattice_dials, rest_of, staircase
from oneforone.ranks import first_ranks


def counts_of(bag, values):
    """How often the bag has each of the values but 0, which the size tells."""
    return tuple([bag.count(value) for value in range(1, values)])


def gap_of(one, other, values):
    """The counts of one bag less those of another one."""
    return tuple([more - less for more, less in zip(counts_of(one, values), counts_of(other, values))])


def _like_pairs(board):
    """Like bags of the board in pairs that join all like ones."""
    return [(bag, like[0]) for like in like_bags(board) for bag in like[1:]]


def _gaps(board):
    return [gap_of(first, second, board.many) for first, second in _like_pairs(board)]


def sum_shadow(board):
    """The board in which two bags are like if there is a mixture for them, renamed."""
    stairs, _ = staircase(_gaps(board), board.many - 1)
    rests = [rest_of(stairs, counts_of(bag, board.many)) for bag in bags(board.many, board.size)]
    return Board(board.many, board.size, first_ranks(rests))


def _check_bags(board, one, other):
    check_full_bag(board, one)
    check_full_bag(board, other)


def mixture(board, one, other):
    """Any mixture for two bags of the board."""
    _check_bags(board, one, other)
    pairs = _like_pairs(board)
    # Behind the numbers of each pair stand the times that it is taken, so that mixing counts them.
    rows = []
    for at, (first, second) in enumerate(pairs):
        rows.append(gap_of(first, second, board.many) + tuple([int(at == place) for place in range(len(pairs))]))
    columns = board.many - 1
    stairs, _ = staircase(rows, columns)
    rest = rest_of(stairs, gap_of(one, other, board.many) + (0,) * len(pairs))
    if rest[:columns] != (0,) * columns:
        raise NoMixture(one, other)
    return [pair + (-times,) for pair, times in zip(pairs, rest[columns:]) if times != 0]


def _is_part(board, value):
    if not is_tuple(value, 3) or not is_full_bag(board, value[0]) or not is_full_bag(board, value[1]):
        return False
    first, second, times = value
    return first != second and board.sign(first) == board.sign(second) and is_whole(times) and times != 0


def is_mixture(board, one, other, value):
    """Whether it is a mixture for two bags of the board."""
    _check_bags(board, one, other)
    if not is_list(value) or not all([_is_part(board, part) for part in value]):
        return False
    for column, number in enumerate(gap_of(one, other, board.many)):
        if sum([part[2] * gap_of(part[0], part[1], board.many)[column] for part in value]) != number:
            return False
    return True


def dials_of_gaps(gaps, values):
    """The dials, with the mark 0 for value 0, whose sums are equal for bags with a mixture of the gaps."""
    rounds, marks = lattice_dials(gaps, values - 1)
    return Dials(rounds, [[0] * len(rounds)] + [[dial[column] for dial in marks] for column in range(values - 1)])


def sum_marks(board):
    """Any dials, with the mark 0 for value 0, whose sums are equal for just the like bags of the sum shadow."""
    return dials_of_gaps(_gaps(board), board.many)


def border_board():
    """An even, seen and sharp board whose sum shadow is another board."""
    return Board(3, 3, (0, 1, 2, 3, 4, 5, 2, 6, 7, 3))
