"""Boards: a sign for each bag of one size."""

from oneforone.bags import bags, count_bags
from oneforone.checks import are_whole, check_full_bag, check_size, check_values, is_full_bag, is_list, is_tuple
from oneforone.errors import InvalidLine, InvalidOther, InvalidSigns, InvalidSize, InvalidValues
from oneforone.ranks import first_ranks
from oneforone.words import written


class Board:
    """A number of values, a size, and the signs of the bags of this size in ascending order of the bags."""

    def __init__(self, values, size, signs):
        check_values(values)
        check_size(size, 1, 6)
        many = count_bags(values, size)
        if not is_list(signs, many, many) or not are_whole(signs):
            raise InvalidSigns(signs)
        self.many = values
        self.size = size
        self.signs = tuple(signs)
        self._by_bag = dict(zip(bags(values, size), signs))

    def __len__(self):
        return len(self.signs)

    def __eq__(self, other):
        return (isinstance(other, Board) and self.many == other.many and self.size == other.size
                and self.signs == other.signs)

    def __call__(self, bag):
        return self.sign(bag)

    def sign(self, bag):
        """The sign of a bag of the board."""
        check_full_bag(self, bag)
        return self._by_bag[bag]

    def line(self):
        """The line from which `read_board` makes this board."""
        signs = [str(sign) for sign in self.signs]
        return " ".join([str(self.many), str(self.size), "/"] + signs)


def like_bags(board):
    """The bags of the board in lists of those with one sign."""
    found = {}
    for bag, sign in zip(bags(board.many, board.size), board.signs):
        found.setdefault(sign, []).append(bag)
    return list(found.values())


def renamed(board):
    """The board in which the same bags are like, with the signs 0, 1 and so on as they come first."""
    return Board(board.many, board.size, first_ranks(board.signs))


def count_board(values, size):
    """The board in which the sign of each bag is its index."""
    return Board(values, size, list(range(count_bags(values, size))))


def _check_other(one, other):
    if not isinstance(other, Board) or other.many != one.many or other.size != one.size:
        raise InvalidOther(other)


def tells_no_less(one, other):
    """Whether any two bags that are like in `one` are like in `other`."""
    return parting_bags(one, other) is None


def parting_bags(one, other):
    """Two bags that are like in `one` and not like in `other`, or None."""
    _check_other(one, other)
    for like in like_bags(one):
        for bag in like:
            if other.sign(bag) != other.sign(like[0]):
                return like[0], bag
    return None


def is_parting_bags(one, other, value):
    """Whether it is a tuple of two bags, the lesser one first, that are like in `one` and not like in `other`."""
    _check_other(one, other)
    if not is_tuple(value, 2) or not all([is_full_bag(one, bag) for bag in value]):
        return False
    lesser, greater = value
    return (lesser < greater and one.sign(lesser) == one.sign(greater)
            and other.sign(lesser) != other.sign(greater))


def both(one, other):
    """The board in which two bags are like if they are like in both boards."""
    _check_other(one, other)
    return Board(one.many, one.size, first_ranks(list(zip(one.signs, other.signs))))


def read_board(line):
    """The board that has this line."""
    if not isinstance(line, str):
        raise InvalidLine(line)
    words = line.split(" ")
    numbers = [written(word) for word in words[:2] + words[3:]]
    if words[2:3] != ["/"]:
        raise InvalidLine(line)
    try:
        return Board(numbers[0], numbers[1], numbers[2:])
    except (InvalidValues, InvalidSize, InvalidSigns):
        raise InvalidLine(line) from None
