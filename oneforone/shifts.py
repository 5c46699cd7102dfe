"""Shifts of values on dials, and whether the sums on one dial tell those on another one."""

from oneforone.checks import are_whole, check_value, is_from, is_set, is_tuple
from oneforone.dials import Dials, check_unlike_marks, difference, rests_on
from oneforone.errors import InvalidDials, InvalidSet, InvalidShift


def _marks_shifted(dials, value, shift):
    return rests_on(dials.rounds, [mark + more for mark, more in zip(dials.marks[value], shift)])


def shifts(dials, values):
    """The ascending list of the shifts by which each of the values can be shifted."""
    if not is_set(values, dials.many):
        raise InvalidSet(values)
    check_unlike_marks(dials)
    found = [difference(dials, to, values[0]) for to in range(dials.many)]
    return sorted([shift for shift in found if _shifts_all(dials, values, shift)])


def _shifts_all(dials, values, shift):
    return all([_marks_shifted(dials, value, shift) in dials.marks for value in values])


def shifted(dials, value, shift):
    """The value whose marks are those of the value plus the shift."""
    check_value(value, dials.many)
    check_unlike_marks(dials)
    if not is_tuple(shift, len(dials.rounds)) or not are_whole(shift) or rests_on(dials.rounds, shift) != shift:
        raise InvalidShift(shift)
    marks = _marks_shifted(dials, value, shift)
    if marks not in dials.marks:
        raise InvalidShift(shift)
    return dials.marks.index(marks)


def _is_one_endless(dials):
    return isinstance(dials, Dials) and dials.rounds == (0,)


def _check_two(one, other):
    if not _is_one_endless(one):
        raise InvalidDials(one)
    if not _is_one_endless(other) or other.many != one.many:
        raise InvalidDials(other)


def _marks_of(dials):
    return [marks[0] for marks in dials.marks]


def _parting_weights(first, second):
    """A number for each value, with the sum 0, also with the marks `first`, and another sum with `second`."""
    many = len(first)
    for a in range(many):
        for b in range(many):
            weights = [0] * many
            if first[a] == first[b]:
                weights[a] += 1
                weights[b] -= 1
            else:
                weights[a] += first[b] - first[0]
                weights[b] -= first[a] - first[0]
                weights[0] += first[a] - first[b]
            if _total(weights, second) != 0:
                return weights
    return None


def _total(numbers, marks):
    return sum([number * mark for number, mark in zip(numbers, marks)])


def parting_counts(one, other):
    """Two tuples of counts of values, as many and with equal sums of `one`, but unlike sums of `other`, or None."""
    _check_two(one, other)
    weights = _parting_weights(_marks_of(one), _marks_of(other))
    if weights is None:
        return None
    more = [max(weight, 0) for weight in weights]
    less = [max(-weight, 0) for weight in weights]
    return tuple(more), tuple(less)


def _are_counts(value, many):
    return is_tuple(value, many) and all([is_from(count, 0) for count in value])


def is_parting_counts(one, other, value):
    """Whether it is two tuples of counts, as many and with equal sums of `one`, but unlike sums of `other`."""
    _check_two(one, other)
    if not is_tuple(value, 2) or not all([_are_counts(counts, one.many) for counts in value]):
        return False
    less = [a - b for a, b in zip(value[0], value[1])]
    return sum(less) == 0 and _total(less, _marks_of(one)) == 0 and _total(less, _marks_of(other)) != 0
