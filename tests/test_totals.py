import random
import unittest
from itertools import product

from oneforone.boards import Board, count_board
from oneforone.dials import Dials
from oneforone.errors import InvalidDials, InvalidOther, InvalidSigns, InvalidSteps, InvalidThings, InvalidValues
from oneforone.totals import Total, least, parting_things, total_of
from tests.cases import NO_INTEGERS, NO_LISTS, Case
from tests.runs import (LAST, ODD, SOME, all_things, any_totals, classes, come_to, disguised, modular, orderless_totals,
                        random_total, sign, stand)
from tests.walks import LONG, some_dials

NO_THINGS = NO_LISTS + [[2], [-1], [True], [0, False], [None], ["0"], [[0]], [(0,)], [0] * 61, (1,) * 61]


class Making(Case):
    def test_attributes(self):
        total = Total(2, ([0, 1], (1, 0)), (LONG, -LONG))
        self.assertEqual([total.many, total.steps, total.signs, len(total)], [2, ((0, 1), (1, 0)), (LONG, -LONG), 2])
        self.assertTrue(type(total.steps) is tuple and type(total.signs) is tuple)
        self.assertTrue(all(type(row) is tuple for row in total.steps))

    def test_one_and_seven_stands(self):
        self.assertEqual(len(Total(1, [[0]], [0])), 1)
        self.assertEqual(len(Total(4, [[6] * 4] * 7, list(range(7)))), 7)
        self.refuses(InvalidSteps, (), Total, 1, (), [])
        rows = [[0]] * 8
        self.refuses(InvalidSteps, rows, Total, 1, rows, [0] * 8)

    def test_equality(self):
        self.assertEqual(ODD, Total(2, ((0, 1), (1, 0)), (5, 7)))
        for other in (SOME, Total(2, [[0, 1], [1, 0]], [5, 8]), Total(1, [[0], [1]], [5, 7]), None, 2, (), [],
                      Board(2, 1, [5, 7]), Dials([2], [[0], [1]]), Total(2, [[0, 1], [1, 0], [0, 0]], [5, 7, 5])):
            self.assertFalse(ODD == other)
            self.assertFalse(other == ODD)
            self.assertTrue(ODD != other)

    def test_the_lists_are_not_kept(self):
        steps, signs = [[0, 1], [1, 0]], [5, 7]
        total = Total(2, steps, signs)
        steps[0][1], signs[0] = 0, 9
        steps.append([0, 0])
        self.assertEqual(total, ODD)

    def test_wrong_values(self):
        for wrong in NO_INTEGERS + [0, 5, -1]:
            self.refuses(InvalidValues, wrong, Total, wrong, [[0]], [0])
            self.refuses(InvalidValues, wrong, Total, wrong, None, None)

    def test_wrong_steps(self):
        for wrong in NO_LISTS + [[], [[0]], [[0, 0, 0]], [[0, 1]], [[0, -1]], [[0, True]], [[0, 0], [0, 2]], [[0, 0], [0]],
                                 [[0, None]], ["00"], [0, 0], [[0, 0]] * 8, [[[0], 0]], [{}], [None]]:
            self.refuses(InvalidSteps, wrong, Total, 2, wrong, [0])
            self.refuses(InvalidSteps, wrong, Total, 2, wrong, None)

    def test_wrong_signs(self):
        for wrong in NO_LISTS + [[], [0], [0, 1, 2], [0, True], [False, 0], [0, None], ["0", 0], [[0], 0], ((0,), 0)]:
            self.refuses(InvalidSigns, wrong, Total, 2, [[0, 1], [1, 0]], wrong)


class Things(Case):
    def test_stands_and_signs(self):
        for total in any_totals():
            for size in range(5 if total.many < 3 else 4):
                for things in all_things(total.many, size):
                    self.assertEqual(total.stand(list(things)), stand(total, things))
                    self.assertEqual(total.sign(things), sign(total, things))
        self.assertEqual([ODD.stand([]), ODD.sign(()), LAST.stand((1, 0)), LAST.stand((0, 1))], [0, 5, 0, 1])

    def test_sixty_things(self):
        self.assertEqual([ODD.stand([1] * 59), ODD.sign([1] * 59), ODD.stand((1,) * 60), ODD.sign([1] * 60)], [1, 7, 0, 5])

    def test_wrong_things(self):
        for wrong in NO_THINGS:
            self.refuses(InvalidThings, wrong, ODD.stand, wrong)
            self.refuses(InvalidThings, wrong, ODD.sign, wrong)


class Least(Case):
    def test_least(self):
        rolls = random.Random(82)
        for total in any_totals():
            found = least(total)
            kinds = classes(total)
            reached = {kinds[at] for at in come_to(total)}
            self.assertIs(type(found), Total)
            self.assertEqual([found.many, len(found)], [total.many, len(reached)])
            for size in range(8 if total.many == 1 else 5 if total.many == 2 else 4):
                for things in all_things(total.many, size):
                    self.assertEqual(sign(found, things), sign(total, things))
            self.assertEqual(least(found), found)
            self.assertEqual(least(disguised(rolls, total)), found)

    def test_numbering(self):
        for total in any_totals():
            found = least(total)
            order = []
            for size in range(8):
                for things in all_things(total.many, size) if total.many < 3 or size < 6 else ():
                    if stand(found, things) not in order:
                        order.append(stand(found, things))
            self.assertEqual(order, list(range(len(found))))

    def test_joined_and_dropped_stands(self):
        self.assertEqual(least(Total(2, [[2, 1], [1, 2], [0, 1]], [5, 7, 5])), ODD)
        self.assertEqual(least(Total(2, [[0, 2], [0, 0], [2, 0]], [5, 9, 7])), ODD)
        self.assertEqual(least(Total(3, [[1, 2, 3], [2, 3, 0], [3, 0, 1], [0, 1, 2]], [4] * 4)), Total(3, [[0, 0, 0]], [4]))
        self.assertEqual(least(Total(1, [[2], [1], [1]], [1, 2, 3])), Total(1, [[1], [2], [2]], [1, 3, 2]))

    def test_new_numbers_go_by_length_and_then_by_order(self):
        total = Total(2, [[3, 2], [1, 1], [1, 4], [2, 3], [4, 4]], [0, 1, 2, 3, 4])
        self.assertEqual(least(total), Total(2, [[1, 2], [2, 1], [3, 4], [3, 3], [4, 4]], [0, 3, 2, 1, 4]))


class Parting(Case):
    def slow(self, one, other, most):
        for size in range(most):
            for things in all_things(one.many, size):
                if sign(one, things) != sign(other, things):
                    return things
        return None

    def test_the_least_of_the_shortest(self):
        rolls = random.Random(83)
        found = set()
        for total in any_totals():
            others = [random_total(rolls, total.many, 3), disguised(rolls, total), SOME, total]
            changed = list(total.signs)
            changed[rolls.randrange(len(changed))] += 1
            others.append(Total(total.many, total.steps, changed))
            for other in others:
                if other.many == total.many:
                    things = parting_things(total, other)
                    self.assertEqual(things, self.slow(total, other, 8 if total.many < 3 else 5))
                    found.add(None if things is None else len(things))
        self.assertTrue({None, 0, 1, 2, 3} <= found)

    def test_far_away(self):
        one = Total(2, [[1, 0], [2, 1], [3, 2], [4, 3], [5, 4], [6, 5], [6, 6]], [0, 0, 0, 0, 0, 0, 1])
        self.assertEqual(parting_things(one, Total(2, [[0, 0]], [0])), (0,) * 6)
        ring = Total(1, [[1], [2], [3], [4], [5], [6], [0]], [0, 0, 0, 0, 0, 0, 1])
        other = Total(1, [[1], [2], [3], [4], [5], [0]], [0, 0, 0, 0, 0, 0])
        self.assertEqual(parting_things(ring, other), (0,) * 6)
        self.assertIs(type(parting_things(ring, other)), tuple)
        late = Total(1, [[1], [2], [3], [4], [5], [0]], [0, 0, 0, 0, 0, 1])
        early = Total(1, [[1], [2], [0]], [0, 0, 1])
        self.assertEqual(parting_things(late, early), (0, 0))
        self.assertIsNone(parting_things(modular([6], [[1]], [0, 0, 1, 0, 0, 1]), early))

    def test_wrong_others(self):
        for wrong in NO_INTEGERS + [1, count_board(2, 2), Dials([2], [[0], [1]]), Total(1, [[0]], [5]),
                                    Total(3, [[0, 0, 0]], [5])]:
            self.refuses(InvalidOther, wrong, parting_things, ODD, wrong)


class Rests(Case):
    def test_totals_of_dials(self):
        told = set()
        given = some_dials() + [Dials([7], [[0], [1], [9], [-1]]), Dials([2, 3], [[0, 0], [1, 2], [-1, -1]]),
                                Dials([3, 2], [[1, 1]]), Dials([2, 2], [[0, 1], [1, 0]]), Dials([6], [[0], [6]])]
        for dials in given:
            many = 1
            for around in dials.rounds:
                many *= around
            if not 1 <= many <= 7:
                self.refuses(InvalidDials, dials, total_of, dials)
                continue
            total = total_of(dials)
            told.add(many)
            stands = list(product(*[range(around) for around in dials.rounds]))
            self.assertEqual([total.many, len(total), total.signs], [dials.many, many, tuple(range(many))])
            for size in range(4):
                for things in all_things(dials.many, size):
                    self.assertEqual(stands[stand(total, things)], dials.sum_of(tuple(sorted(things))))
            self.assertEqual(total, modular(dials.rounds, dials.marks, range(many)))
        self.assertTrue({1, 4, 6, 7} <= told)

    def test_limits(self):
        self.assertEqual(total_of(Dials([], [[], [], []])), Total(3, [[0, 0, 0]], [0]))
        self.assertEqual(total_of(Dials([7], [[0], [-1]])), Total(2, [[at, (at + 6) % 7] for at in range(7)], range_list(7)))
        for rounds in ([8], [2, 4], [2, 2, 2], [0], [3, 0], [0, 2], [0, 0, 0], [7, 2], [10 ** 19]):
            dials = Dials(rounds, [[0] * len(rounds), [1] * len(rounds)])
            self.refuses(InvalidDials, dials, total_of, dials)
        for wrong in NO_INTEGERS + [1, ODD, count_board(2, 2)]:
            self.refuses(InvalidDials, wrong, total_of, wrong)

    def test_stands_that_nothing_comes_to(self):
        total = total_of(Dials([2, 3], [[0, 1], [0, 2]]))
        self.assertEqual([len(total), sorted(come_to(total))], [6, [0, 1, 2]])


def range_list(many):
    return list(range(many))


class Orderless(Case):
    def test_totals_of_dials_are_orderless(self):
        for total in orderless_totals():
            for things in all_things(total.many, 3):
                self.assertEqual(total.sign(things), total.sign(sorted(things)))


if __name__ == "__main__":
    unittest.main()
