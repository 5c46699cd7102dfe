import random
import unittest
from itertools import combinations, product

from oneforone.blocks import kinds
from oneforone.boards import tells_no_less
from oneforone.dials import Dials, dials_board, same_marks
from oneforone.errors import InvalidDials, InvalidSet, InvalidShift, InvalidValue
from oneforone.failures import SameMarks
from oneforone.shifts import is_parting_counts, parting_counts, shifted, shifts
from tests.cases import NO_INTEGERS, NO_LISTS, Case
from tests.walks import KLEIN, LONG, SAME, any_values, mutants, rest, some_dials, unlike

TURNS = Dials([4], [[0], [1], [2]])


def value_shifted(dials, value, shift):
    """The value whose marks are those of the value plus the shift, or None."""
    marks = tuple(rest(mark + more, around)
                  for mark, more, around in zip(dials.marks[value], shift, dials.rounds))
    return dials.marks.index(marks) if marks in dials.marks else None


def sets_of(dials):
    return [list(values) for many in range(1, dials.many + 1) for values in combinations(range(dials.many), many)]


class Shifts(Case):
    def test_shifts_of_each_set(self):
        for dials in some_dials():
            if not unlike(dials):
                continue
            steps = {tuple(rest(a - b, around) for a, b, around in zip(dials.marks[one], dials.marks[other], dials.rounds))
                     for one in range(dials.many) for other in range(dials.many)}
            board = dials_board(dials, 2)
            for values in sets_of(dials):
                right = sorted(shift for shift in steps
                               if all(value_shifted(dials, value, shift) is not None for value in values))
                for given in (values, tuple(values)):
                    found = shifts(dials, given)
                    self.assertIs(type(found), list)
                    self.assertEqual(found, right)
                # As many kinds have a change with each of the values here.
                here = [kind for kind in kinds(board) if set(values) <= {change[0] for change in kind}]
                self.assertEqual(len(here), len(right))

    def test_values_shifted(self):
        for dials in some_dials():
            if not unlike(dials):
                continue
            for value in range(dials.many):
                for shift in shifts(dials, [value]):
                    self.assertEqual(shifted(dials, value, shift), value_shifted(dials, value, shift))
                self.assertEqual({shifted(dials, value, shift) for shift in shifts(dials, [value])},
                                 set(range(dials.many)))

    def test_large_rounds_and_marks(self):
        dials = Dials([LONG, 0], [[0, 0], [LONG - 1, -LONG], [5, LONG]])
        self.assertEqual(shifts(dials, [1]), [(0, 0), (1, LONG), (6, 2 * LONG)])
        self.assertEqual(shifts(dials, [0, 1]), [(0, 0)])
        self.assertEqual([shifted(dials, 1, (6, 2 * LONG)), shifted(dials, 2, (LONG - 5, -LONG))], [2, 0])

    def test_no_dials(self):
        self.assertEqual([shifts(Dials([], [[]]), [0]), shifted(Dials([], [[]]), 0, ())], [[()], 0])

    def test_wrong_sets_ahead_of_same_marks(self):
        for wrong in NO_LISTS + [[], (), [1, 0], [0, 0], [3], [-1], [True], [0, True], [0, None], ["0"], [[0]],
                                 [0, 1, 2, 3], {0: 1}]:
            self.refuses(InvalidSet, wrong, shifts, TURNS, wrong)
        for wrong in (None, [], [1, 0], [4]):
            self.refuses(InvalidSet, wrong, shifts, SAME, wrong)
        self.assertEqual(same_marks(SAME), (1, 3))
        self.fails(SameMarks, {"one": 1, "other": 3}, shifts, SAME, [0])

    def test_wrong_values_ahead_of_same_marks_ahead_of_wrong_shifts(self):
        for wrong in NO_INTEGERS + [-1, 3]:
            self.refuses(InvalidValue, wrong, shifted, TURNS, wrong, (1,))
            self.refuses(InvalidValue, wrong, shifted, TURNS, wrong, None)
        self.refuses(InvalidValue, 4, shifted, SAME, 4, (0, 0))
        for shift in (None, (0, 0), (9, 9)):
            self.fails(SameMarks, {"one": 1, "other": 3}, shifted, SAME, 0, shift)
        for wrong in [None, True, 0, 1, [1], [], (), (1, 0), (4,), (-1,), (5,), (True,), (False,), ("1",), (None,), "1", {},
                      ((1,),), (3,)]:
            self.refuses(InvalidShift, wrong, shifted, TURNS, 0, wrong)
        self.assertEqual(shifted(TURNS, 0, (2,)), 2)


def one_dial(marks):
    return Dials([0], [[mark] for mark in marks])


def is_right(one, other, value):
    if type(value) is not tuple or len(value) != 2:
        return False
    for counts in value:
        if type(counts) is not tuple or len(counts) != one.many:
            return False
        if not all(type(count) is int and count >= 0 for count in counts):
            return False

    def total(dials, counts):
        return sum(count * dials.marks[at][0] for at, count in enumerate(counts))

    more, less = value
    return sum(more) == sum(less) and total(one, more) == total(one, less) and total(other, more) != total(other, less)


def tells(one, other):
    """By the last sentences of the point: whether there are no parting counts."""
    w = [mark for (mark,) in one.marks]
    v = [mark for (mark,) in other.marks]
    many = range(one.many)
    return (all(v[a] == v[b] for a in many for b in many if w[a] == w[b])
            and all((v[a] - v[0]) * (w[b] - w[0]) == (v[b] - v[0]) * (w[a] - w[0]) for a in many for b in many))


class PartingCounts(Case):
    def pairs(self):
        for many in (1, 2, 3):
            marks = list(product(range(3), repeat=many))
            yield from ((one_dial(one), one_dial(other)) for one in marks for other in marks)
        rolls = random.Random(65)
        for _ in range(60):
            one = [rolls.randint(-4, 4) for _ in range(4)]
            yield one_dial(one), one_dial([rolls.randint(-4, 4) for _ in range(4)])
            scale, start = rolls.randint(-3, 3), rolls.randint(-LONG, LONG)
            yield one_dial(one), one_dial([scale * mark + start for mark in one])
        yield one_dial([LONG, -LONG, 7, 0]), one_dial([1, -LONG, LONG, LONG])
        yield one_dial([LONG, -LONG, 0, 7]), one_dial([-LONG, LONG, 0, -7])
        yield one_dial([3, 5, 3, 5]), one_dial([1, 2, 1, 3])

    def test_found_exactly_if_there_are_some(self):
        told = set()
        for one, other in self.pairs():
            found = parting_counts(one, other)
            told.add(found is None)
            self.assertEqual(found is None, tells(one, other))
            if found is not None:
                self.assertTrue(is_right(one, other, found))
                self.assertIs(is_parting_counts(one, other, found), True)
            elif max(abs(mark) for (mark,) in one.marks + other.marks) < 50:
                for size in (1, 2, 3):
                    self.assertTrue(tells_no_less(dials_board(one, size), dials_board(other, size)))
        self.assertEqual(told, {True, False})

    def test_judge(self):
        one, other = one_dial([0, 1, 2]), one_dial([5, 3, 4])
        cases = [(one, other), (one, one_dial([5, 3, 1])), (one_dial([1, 1, 0]), one_dial([1, 0, 0])),
                 (one_dial([4]), one_dial([4]))]
        counts = [each for each in product(range(3), repeat=3)]
        for first, second in cases:
            values = any_values() + list(product(counts, counts)) + list(mutants(((1, 0, 1), (0, 2, 0))))
            values += [((10, 0, 10), (0, 20, 0)), ((1, 0, 1), (0, 2, -0)), ((2, -1, 2), (1, 1, 1)), ((0,), (0,)),
                       ((1,), (1,))]
            self.judges(lambda value: is_parting_counts(first, second, value),
                        lambda value: is_right(first, second, value), values)
        self.assertIs(is_parting_counts(one, other, ((1, 0, 1), (0, 2, 0))), True)

    def test_wrong_dials(self):
        right = one_dial([0, 1, 2])
        wrongs = [None, True, 0, [], "0", {}, ((0,), ((0,), (1,), (2,))), KLEIN, Dials([], [[], [], []]), TURNS,
                  Dials([0, 0], [[0, 0], [1, 1], [2, 2]]), Dials([0, 4], [[0, 0], [1, 1], [2, 2]]),
                  dials_board(right, 2)]
        for wrong in wrongs:
            for function in (parting_counts, lambda one, other: is_parting_counts(one, other, ((1, 0, 1), (0, 2, 0)))):
                self.refuses(InvalidDials, wrong, function, wrong, right)
                self.refuses(InvalidDials, wrong, function, wrong, None)
                self.refuses(InvalidDials, wrong, function, right, wrong)
        for wrong in (one_dial([0, 1]), one_dial([0, 1, 2, 3])):
            self.refuses(InvalidDials, wrong, parting_counts, right, wrong)
            self.refuses(InvalidDials, wrong, is_parting_counts, right, wrong, None)
            self.assertIsNone(parting_counts(wrong, wrong))


if __name__ == "__main__":
    unittest.main()
