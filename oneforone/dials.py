"""Dials: marks of values that are added, endlessly or round."""

from oneforone.bags import bags
from oneforone.boards import Board
from oneforone.checks import are_between, are_whole, check_size, check_value, is_bag, is_from, is_list, is_tuple
from oneforone.errors import InvalidBag, InvalidMarks, InvalidRounds
from oneforone.failures import SameMarks
from oneforone.ranks import ranks


def rests_on(rounds, numbers):
    """The tuple of the numbers, one for each dial, as they count on it."""
    return tuple([number % around if around else number for number, around in zip(numbers, rounds)])


def _is_round(value):
    return is_from(value, 0) and value != 1


def _are_marks(rounds, marks):
    """Whether it is a list of one integer for each dial."""
    return is_list(marks, len(rounds), len(rounds)) and are_whole(marks)


class Dials:
    """Dials, endless ones as 0 and round ones as their number of rests, and the marks of values on them."""

    def __init__(self, rounds, marks):
        if not is_list(rounds, 0, 3) or not all([_is_round(around) for around in rounds]):
            raise InvalidRounds(rounds)
        if not is_list(marks, 1, 4) or not all([_are_marks(rounds, each) for each in marks]):
            raise InvalidMarks(marks)
        self.rounds = tuple(rounds)
        self.marks = tuple([rests_on(rounds, each) for each in marks])
        self.many = len(marks)

    def __eq__(self, other):
        return isinstance(other, Dials) and self.rounds == other.rounds and self.marks == other.marks

    def sum_of(self, bag):
        """The tuple of the sums of the marks of the values of a bag."""
        if not is_bag(bag, self.many, 0, 60):
            raise InvalidBag(bag)
        marks = [self.marks[value] for value in bag]
        return rests_on(self.rounds, [sum([each[dial] for each in marks]) for dial in range(len(self.rounds))])


def dials_board(dials, size):
    """The board in which the sign of a bag is the place of its sum among those of the bags of this size."""
    check_size(size, 1, 6)
    sums = [dials.sum_of(bag) for bag in bags(dials.many, size)]
    return Board(dials.many, size, ranks(sums))


def _difference(dials, one, other):
    return rests_on(dials.rounds, [mark - less for mark, less in zip(dials.marks[one], dials.marks[other])])


def difference(dials, one, other):
    """The marks of the value `one` minus those of the value `other`."""
    check_value(one, dials.many)
    check_value(other, dials.many)
    return _difference(dials, one, other)


def same_marks(dials):
    """The least tuple of two values with equal marks, or None."""
    for one in range(dials.many):
        for other in range(one + 1, dials.many):
            if dials.marks[one] == dials.marks[other]:
                return one, other
    return None


def check_unlike_marks(dials):
    """Raise SameMarks if two values have equal marks."""
    same = same_marks(dials)
    if same is not None:
        raise SameMarks(same[0], same[1])


def twice(dials):
    """Two unlike tuples of unlike values with the same difference, as one tuple, or None."""
    check_unlike_marks(dials)
    first = {}
    for one in range(dials.many):
        for other in range(dials.many):
            pair = first.setdefault(_difference(dials, one, other), (one, other))
            if one != other and pair != (one, other):
                return pair + (one, other)
    return None


def is_twice(dials, value):
    """Whether it is a tuple of two unlike tuples of unlike values with the same difference."""
    check_unlike_marks(dials)
    if not is_tuple(value, 4) or not are_between(value, 0, dials.many - 1):
        return False
    one, other, third, fourth = value
    alike = _difference(dials, one, other) == _difference(dials, third, fourth)
    return one != other and (one, other) != (third, fourth) and alike
