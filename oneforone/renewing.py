"""What tables tell whose rows are only renewed."""

from oneforone.failures import Hidden, SumBoard
from oneforone.matches import matches_with
from oneforone.moves import hiding, moves
from oneforone.stages import seen_kinds


def told_by_renewing(board):
    """Any script and history in which all stints of row 0 are known: it shows all values."""
    move = hiding(board)
    if move is not None:
        raise Hidden(move)
    return [0] * (board.many - 1), (0,) * board.size + tuple(range(1, board.many))


def alike_by_renewing(board):
    """The one number of alike histories that each history of each scene has, or None if there is none."""
    # No two moves lead 0 to one value, so as many moves as values lead it to each of them.
    if len(moves(board)) < board.many:
        return None
    number = 1
    for _ in range(board.size - 1):
        number = number * board.many
    return number


def unlike_numbers(board):
    """Any script and two histories that have unlike numbers of alike histories."""
    if alike_by_renewing(board) is not None:
        raise SumBoard()
    # A kind that does not have some value here: to show this value, too, bars at least one of the alike histories.
    short = [kind for kind in seen_kinds(board) if len(kind) < board.many][0]
    change = short[0]
    missing = [value for value in range(board.many) if value not in [here for here, _ in short]]
    bag, _ = matches_with(board, change)[0]
    shown = (change[0],) + bag
    return [0], shown + (missing[0],), shown + (change[0],)
