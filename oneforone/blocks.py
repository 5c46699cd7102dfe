"""Blocks of changes, and the boards that are even, seen or sharp."""

from oneforone.bags import bags
from oneforone.boards import Board
from oneforone.checks import are_between, check_change, is_form, is_list, is_short_bag, is_tuple, unchanged
from oneforone.failures import Apart, NotEven
from oneforone.joins import have_common, joined
from oneforone.short_rows import match_of_rows, sign_rows, unlike_matches


def blocks(board):
    """The ascending list of the blocks of the board."""
    return joined(list(unlike_matches(board)))


def block_of(board, change):
    """The block that has the change, or None."""
    check_change(board, change)
    for block in blocks(board):
        if change in block:
            return block
    return None


def block_chain(board, one, other):
    """Any shortest block chain from the change `one` to the change `other`."""
    check_change(board, one)
    check_change(board, other)
    matches = unlike_matches(board)
    chains = {one: []}
    waiting = [one]
    while waiting:
        change = waiting.pop(0)
        for match, pair in matches.items():
            if change in match:
                chain = chains[change] + [pair]
                if other in match:
                    return chain
                fresh = [beyond for beyond in match if beyond not in chains]
                waiting.extend(fresh)
                for beyond in fresh:
                    chains[beyond] = chain
    raise Apart(one, other)


def is_block_chain(board, one, other, value):
    """Whether it is a block chain from the change `one` to the change `other`."""
    check_change(board, one)
    check_change(board, other)
    if not is_list(value, 1) or not all([is_form(board, pair, 2, 0) for pair in value]):
        return False
    rows = sign_rows(board)
    matches = [match_of_rows(rows[pair[0]], rows[pair[1]]) for pair in value]
    steps = [have_common(match, after) for match, after in zip(matches, matches[1:])]
    return one in matches[0] and other in matches[-1] and all(steps)


def even(board):
    """Whether two matches of the board are always equal or have no change in common."""
    return uneven(board) is None


def uneven(board):
    """Four short bags and two changes that show that the board is not even, or None if it is."""
    matches = unlike_matches(board)
    first = {}
    for match in matches:
        for change in match:
            known = first.setdefault(change, match)
            for wide, narrow in ((match, known), (known, match)):
                beyond = [other for other in wide if other not in narrow]
                if beyond:
                    return matches[wide] + matches[narrow] + (change, beyond[0])
    return None


def is_uneven(board, value):
    """Whether it is a tuple that shows that the board is not even."""
    if not is_form(board, value, 4, 2):
        return False
    one, other, third, fourth, change, beyond = value
    rows = sign_rows(board)
    wide = match_of_rows(rows[one], rows[other])
    narrow = match_of_rows(rows[third], rows[fourth])
    return change in wide and beyond in wide and change in narrow and beyond not in narrow


def _check_even(board):
    witness = uneven(board)
    if witness is not None:
        raise NotEven(witness)


def kinds(board):
    """The ascending list of the kinds of an even board."""
    _check_even(board)
    return blocks(board)


def seen(board):
    """Whether a bag with one value more and with another one more is never like."""
    return unseen(board) is None


def unseen(board):
    """A short bag and two values, the lesser one first, that are not told apart there, or None."""
    for bag, row in sign_rows(board).items():
        for value, sign in enumerate(row):
            if sign in row[:value]:
                return bag, row.index(sign), value
    return None


def is_unseen(board, value):
    """Whether it is a tuple that shows that the board is not seen."""
    if not is_tuple(value, 3) or not is_short_bag(board, value[0]) or not are_between(value[1:], 0, board.many - 1):
        return False
    bag, lesser, greater = value
    row = sign_rows(board)[bag]
    return lesser < greater and row[lesser] == row[greater]


def sharp(board):
    """Whether each match is empty, has one change, or has only unchanged ones."""
    return unsharp(board) is None


def unsharp(board):
    """Two short bags and two changes that show that the board is not sharp, or None if it is."""
    for match, pair in unlike_matches(board).items():
        turned = [change for change in match if not unchanged(change)]
        if turned and len(match) > 1:
            others = [change for change in match if change != turned[0]]
            return pair + (turned[0], others[0])
    return None


def is_unsharp(board, value):
    """Whether it is a tuple that shows that the board is not sharp."""
    if not is_form(board, value, 2, 2):
        return False
    one, other, change, beyond = value
    rows = sign_rows(board)
    match = match_of_rows(rows[one], rows[other])
    turned = not unchanged(change) or not unchanged(beyond)
    return change != beyond and change in match and beyond in match and turned


def same_values(board):
    """The ascending list of the ascending lists of values that are the same for the even board."""
    _check_even(board)
    rows = list(sign_rows(board).values())
    found = {}
    for value in range(board.many):
        found.setdefault(tuple([row[value] for row in rows]), []).append(value)
    return list(found.values())


def merged(board):
    """The board whose values are the indices of the lists of values that are the same for the even board."""
    first = [values[0] for values in same_values(board)]
    signs = [board.sign(tuple([first[value] for value in bag])) for bag in bags(len(first), board.size)]
    return Board(len(first), board.size, signs)
