import unittest

from oneforone.boards import Board
from oneforone.errors import InvalidSize
from oneforone.failures import Disordered
from oneforone.orders import board_at, disorder, is_disorder
from oneforone.totals import Total
from tests.cases import NO_INTEGERS, Case
from tests.runs import (LAST, ODD, SOME, any_totals, come_to, disordered_totals, is_orderless, late_disorder,
                        orderless_totals, sign, signs_of_bags)
from tests.walks import any_values, is_int, mutants


def shows_disorder(total, value):
    """By the words of the point."""
    if type(value) is not tuple or len(value) != 2:
        return False
    for things in value:
        if type(things) is not tuple or len(things) > 60:
            return False
        if not all(is_int(each) and 0 <= each < total.many for each in things):
            return False
    one, other = value
    turned = [one[:at] + (one[at + 1], one[at]) + one[at + 2:] for at in range(len(one) - 1)]
    return other in turned and sign(total, one) != sign(total, other)


class Disorders(Case):
    def test_by_the_words(self):
        for total in any_totals():
            found = disorder(total)
            if is_orderless(total):
                self.assertIsNone(found)
            else:
                self.assertTrue(shows_disorder(total, found))
                self.assertIs(is_disorder(total, found), True)
        self.assertTrue(len(disordered_totals()) > 20)

    def test_far_away(self):
        for ahead in (0, 1, 2, 3, 4):
            total = late_disorder(ahead)
            self.assertFalse(is_orderless(total))
            self.assertTrue(shows_disorder(total, disorder(total)))
        # The order of 0 and 1 tells at once, but shows only behind many values more.
        slow = Total(2, [[1, 2], [3, 3], [4, 3], [5, 5], [6, 6], [3, 3], [3, 3]], [0, 0, 0, 0, 0, 0, 1])
        self.assertTrue(shows_disorder(slow, disorder(slow)))
        ring = Total(3, [[0, 1, 2], [1, 1, 3], [4, 2, 2], [5, 5, 5], [6, 6, 6], [3, 3, 3], [3, 3, 3]], [0] * 5 + [1, 2])
        self.assertTrue(shows_disorder(ring, disorder(ring)))

    def test_stands_that_nothing_comes_to(self):
        total = Total(2, [[0, 1], [1, 0], [0, 1], [3, 2]], [5, 7, 1, 2])
        self.assertEqual(sorted(come_to(total)), [0, 1])
        self.assertIsNone(disorder(total))

    def test_stands_that_differ_but_show_the_same(self):
        total = Total(2, [[1, 2], [1, 3], [4, 2], [3, 3], [4, 4]], [0, 1, 1, 2, 2])
        self.assertIsNone(disorder(total))
        self.assertEqual(board_at(total, 2).signs, (1, 2, 1))

    def test_judge(self):
        for total in (LAST, ODD, late_disorder(2), Total(3, [[1, 2, 0], [1, 1, 2], [0, 2, 1]], [0, 1, 1])):
            right = disorder(total) or ((0, 1), (1, 0))
            values = any_values() + list(mutants(right)) + [right[::-1], right[:1] * 2, list(right)]
            values += [(one, other) for one in ((), (0,), (1,), (0, 1), (1, 0), (0, 0, 1), (0, 1, 0), (1, 0, 0), (1, 1, 0))
                       for other in ((), (0,), (1,), (0, 1), (1, 0), (0, 0, 1), (0, 1, 0), (1, 0, 0), (1, 1, 0))]
            values += [((0, 1, 1, 0), (1, 0, 0, 1)), ((0, 1), (1, 0, 0)), ((0, 1, 0), (1, 0)), ([0, 1], (1, 0)),
                       ((0, 1, 1), (1, 1, 0)), ((0, 1, 2), (1, 2, 0)), ((1, 2, 0), (2, 1, 0)), ((0, 2, 1), (1, 2, 0))]
            self.judges(lambda value: is_disorder(total, value), lambda value: shows_disorder(total, value), values)

    def test_sixty_values(self):
        for ahead, answer in ((58, True), (59, False), (0, True), (57, True)):
            value = ((0,) * ahead + (0, 1), (0,) * ahead + (1, 0))
            self.assertIs(is_disorder(LAST, value), answer)
        self.assertIs(is_disorder(LAST, ((0,) * 58 + (0, 1), (0,) * 59 + (1, 0))), False)

    def test_each_condition_broken_alone(self):
        self.assertIs(is_disorder(LAST, ((0, 1), (1, 0))), True)
        self.assertIs(is_disorder(LAST, ((0, 1), (0, 0))), False)
        self.assertIs(is_disorder(LAST, ((0, -1), (-1, 0))), False)
        self.assertIs(is_disorder(LAST, ((0, True), (True, 0))), False)
        self.assertIs(is_disorder(LAST, ((0, 1, 0), (1, 0, 0))), False)
        self.assertIs(is_disorder(ODD, ((0, 1), (1, 0))), False)
        other = Total(2, [[1, 2], [1, 2], [1, 2]], [0, 1, 2])
        self.assertIs(is_disorder(other, ((0, 1, 1, 0), (1, 0, 0, 1))), False)
        self.assertIs(is_disorder(other, ((0, 0, 1), (1, 0, 0))), False)
        self.assertIs(is_disorder(other, ((0, 0, 1), (0, 1, 0))), True)


class Boards(Case):
    def test_signs(self):
        for total in orderless_totals():
            for size in range(1, 7) if total.many < 4 else (1, 2, 3, 6):
                self.assertEqual(board_at(total, size), Board(total.many, size, signs_of_bags(total, size)))
        self.assertEqual(board_at(SOME, 2).signs, (5, 7, 7))

    def test_disordered(self):
        for total in disordered_totals():
            self.fails_with(Disordered, lambda value: shows_disorder(total, value), board_at, total, 3)

    def test_wrong_sizes(self):
        for wrong in NO_INTEGERS + [0, 7, -1]:
            self.refuses(InvalidSize, wrong, board_at, ODD, wrong)
            self.refuses(InvalidSize, wrong, board_at, LAST, wrong)


if __name__ == "__main__":
    unittest.main()
