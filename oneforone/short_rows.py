"""The rows of a board: for each short bag the signs of the bags that have one value more."""

from oneforone.bags import bags


def sign_rows(board):
    """For each short bag, ascending, the tuple of the signs of the bag with each value more."""
    signs = dict(zip(bags(board.many, board.size), board.signs))
    found = {}
    for bag in bags(board.many, board.size - 1):
        found[bag] = tuple([signs[tuple(sorted([*bag, value]))] for value in range(board.many)])
    return found


def match_of_rows(one, other):
    """The match of two short bags, by their rows."""
    return [(here, there) for here, sign in enumerate(one) for there, beyond in enumerate(other) if sign == beyond]


def _first_bags(board):
    """For each row the least short bag that has it; bags with equal rows have equal matches."""
    found = {}
    for bag, row in sign_rows(board).items():
        found.setdefault(row, bag)
    return found


def _places_of_signs(rows):
    """For each sign the list of all tuples of the index of a row and a value that has the sign there."""
    found = {}
    for at, row in enumerate(rows):
        for value, sign in enumerate(row):
            found.setdefault(sign, []).append((at, value))
    return found


def unlike_matches(board):
    """Each match of the board that is not empty, as a tuple, with two short bags whose match it is."""
    first_bags = _first_bags(board)
    changes = {}
    for places in _places_of_signs(list(first_bags)).values():
        for one, here in places:
            for other, there in places:
                changes.setdefault((one, other), []).append((here, there))
    short = list(first_bags.values())
    found = {}
    for one, other in changes:
        match = tuple(sorted(changes[one, other]))
        found.setdefault(match, (short[one], short[other]))
    return found
