import unittest
from itertools import product

from oneforone.blocks import even, seen, sharp
from oneforone.boards import Board
from oneforone.counters import same_kind
from oneforone.dials import Dials, dials_board, difference, is_twice, same_marks, twice
from oneforone.errors import InvalidBag, InvalidMarks, InvalidRounds, InvalidSize, InvalidValue
from oneforone.failures import SameMarks
from tests.cases import NO_INTEGERS, NO_LISTS, Case
from tests.walks import KLEIN, LONG, SAME, all_bags, any_values, mutants, rest, some_dials, unlike


class Making(Case):
    def test_attributes(self):
        dials = Dials([7, 0, 2], [[0, 0, 0], [-1, -2, -3], [LONG, LONG, -LONG], [7, 7, 7]])
        self.assertEqual([dials.rounds, dials.many], [(7, 0, 2), 4])
        self.assertEqual(dials.marks, ((0, 0, 0), (6, -2, 1), (LONG % 7, LONG, 0), (0, 7, 1)))
        self.assertTrue(type(dials.rounds) is tuple and type(dials.marks) is tuple)
        self.assertTrue(all(type(marks) is tuple for marks in dials.marks))

    def test_no_dials(self):
        for marks in ([[]], [[], []], ((), (), (), ())):
            dials = Dials([], marks)
            self.assertEqual([dials.rounds, dials.marks, dials.many], [(), ((),) * len(marks), len(marks)])
            self.assertEqual(dials.sum_of((0, 0)), ())
        self.assertEqual(dials_board(Dials((), [[], []]), 3), Board(2, 3, [0, 0, 0, 0]))

    def test_equality(self):
        one = Dials([4, 0], [[5, 5], [-1, -1]])
        self.assertEqual(one, Dials((4, 0), ([1, 5], (3, -1))))
        for other in (Dials([4, 4], [[5, 5], [-1, -1]]), Dials([4, 0], [[5, 1], [-1, -1]]), Dials([4, 0], [[5, 5]]),
                      Dials([5, 0], [[1, 5], [3, -1]]), Board(2, 1, [0, 0]), None, ((4, 0), ((1, 5), (3, -1))), 0, []):
            self.assertFalse(one == other)
            self.assertFalse(other == one)
        self.assertFalse(Dials([], [[]]) == Dials([], [[], []]))

    def test_the_lists_are_not_kept(self):
        rounds, marks = [4], [[1], [2]]
        dials = Dials(rounds, marks)
        rounds[0], marks[0][0] = 7, 3
        marks.append([0])
        self.assertEqual([dials.rounds, dials.marks, dials.many], [(4,), ((1,), (2,)), 2])

    def test_wrong_rounds(self):
        for wrong in NO_LISTS + [[1], [-1], [-7], [True], [False], [0, 1], [0, None], ["0"], [[0]], [(0,)], [0] * 4]:
            self.refuses(InvalidRounds, wrong, Dials, wrong, [[0]])
            self.refuses(InvalidRounds, wrong, Dials, wrong, None)
        self.assertEqual(Dials([2, 10 ** 19, 0], [[1, -1, 1]]).marks, ((1, 10 ** 19 - 1, 1),))

    def test_wrong_marks(self):
        for wrong in NO_LISTS + [[], (), [[0]] * 5, [[0], []], [[0], [0, 0]], [0, 0], [[True]], [[0], [None]], [["0"]],
                                 [[[0]]], [[(0,)]], ["0"], [{}], [None], [[0], 0]]:
            self.refuses(InvalidMarks, wrong, Dials, [0], wrong)
        for wrong in ([[0]], [[], [0]], [], [[]] * 5):
            self.refuses(InvalidMarks, wrong, Dials, [], wrong)


class Sums(Case):
    def test_sums(self):
        for dials in some_dials():
            for size in (0, 1, 2, 3):
                for bag in all_bags(dials.many, size):
                    sums = tuple(rest(sum(dials.marks[value][dial] for value in bag), around)
                                 for dial, around in enumerate(dials.rounds))
                    self.assertEqual(dials.sum_of(bag), sums)
                    self.assertIs(type(dials.sum_of(bag)), tuple)

    def test_sizes_of_bags(self):
        dials = Dials([7, 0], [[0, 0], [1, LONG]])
        self.assertEqual(dials.sum_of(()), (0, 0))
        self.assertEqual(dials.sum_of((0,) + (1,) * 59), (3, 59 * LONG))
        self.assertEqual(dials.sum_of((1,) * 60), (4, 60 * LONG))
        for wrong in [(0,) * 61, (1,) * 61, None, True, 0, [], [0, 1], (1, 0), (0, 2), (-1,), (True,), (0, None), "01",
                      {}, ((0,),)]:
            self.refuses(InvalidBag, wrong, dials.sum_of, wrong)

    def test_boards(self):
        for dials in some_dials():
            for size in (1, 2, 3, 6):
                bags = all_bags(dials.many, size)
                sums = sorted({dials.sum_of(bag) for bag in bags})
                board = dials_board(dials, size)
                self.assertEqual(board, Board(dials.many, size, [sums.index(dials.sum_of(bag)) for bag in bags]))

    def test_places_are_those_of_the_tuples(self):
        self.assertEqual(dials_board(Dials([0, 0], [[1, -1], [0, 9], [1, -2]]), 1).signs, (2, 0, 1))
        self.assertEqual(dials_board(Dials([5], [[-1], [0]]), 1).signs, (1, 0))

    def test_wrong_sizes(self):
        for wrong in NO_INTEGERS + [0, 7, -1]:
            self.refuses(InvalidSize, wrong, dials_board, KLEIN, wrong)


class Differences(Case):
    def gap(self, dials, one, other):
        return tuple(rest(a - b, around)
                     for a, b, around in zip(dials.marks[one], dials.marks[other], dials.rounds))

    def right(self, dials, value):
        if type(value) is not tuple or len(value) != 4:
            return False
        if not all(type(each) is int and 0 <= each < dials.many for each in value):
            return False
        a, c, b, d = value
        return a != c and (a, c) != (b, d) and self.gap(dials, a, c) == self.gap(dials, b, d)

    def test_differences(self):
        for dials in some_dials():
            for one in range(dials.many):
                for other in range(dials.many):
                    self.assertEqual(difference(dials, one, other), self.gap(dials, one, other))

    def test_wrong_values(self):
        dials = Dials([4], [[0], [1], [2]])
        for wrong in NO_INTEGERS + [-1, 3]:
            self.refuses(InvalidValue, wrong, difference, dials, wrong, 0)
            self.refuses(InvalidValue, wrong, difference, dials, wrong, None)
            self.refuses(InvalidValue, wrong, difference, dials, 0, wrong)

    def test_same_marks(self):
        for dials in some_dials() + [SAME]:
            pairs = [(a, c) for a in range(dials.many) for c in range(a + 1, dials.many)
                     if dials.marks[a] == dials.marks[c]]
            self.assertEqual(same_marks(dials), min(pairs) if pairs else None)
        self.assertEqual(same_marks(SAME), (1, 3))
        self.assertEqual(same_marks(Dials([5], [[1], [2], [-3], [6]])), (0, 3))
        self.assertIsNone(same_marks(Dials([0], [[1], [2], [-3], [6]])))

    def test_twice(self):
        told = set()
        for dials in some_dials():
            if not unlike(dials):
                one, other = same_marks(dials)
                self.fails(SameMarks, {"one": one, "other": other}, twice, dials)
                self.fails(SameMarks, {"one": one, "other": other}, is_twice, dials, None)
                continue
            right = [value for value in product(range(dials.many), repeat=4) if self.right(dials, value)]
            found = twice(dials)
            told.add(found is None)
            if right:
                self.assertTrue(self.right(dials, found))
                self.assertIs(is_twice(dials, found), True)
            else:
                self.assertIsNone(found)
        self.assertEqual(told, {True, False})

    def test_judge(self):
        for dials in (KLEIN, Dials([4], [[0], [1], [2]]), Dials([0], [[0], [1], [3], [4]]), Dials([0], [[0], [1], [5]]),
                      Dials([], [[]])):
            values = any_values() + list(product(range(-1, 5), repeat=4)) + list(mutants((0, 1, 1, 2)))
            self.judges(lambda value: is_twice(dials, value), lambda value: self.right(dials, value), values)

    def test_boards_of_unlike_marks(self):
        for dials in some_dials():
            if not unlike(dials):
                continue
            for size in (1, 2, 3):
                board = dials_board(dials, size)
                self.assertTrue(even(board) and seen(board))
                if size > 1:
                    self.assertEqual(sharp(board), twice(dials) is None)
                    for a, c, b, d in product(range(dials.many), repeat=4):
                        if size == 2 and a <= c:
                            self.assertEqual(same_kind(board, (a, c), (b, d)),
                                             self.gap(dials, a, c) == self.gap(dials, b, d))


if __name__ == "__main__":
    unittest.main()
