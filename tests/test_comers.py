import random
import unittest
from itertools import product

from oneforone.calendars import answer_at, calendar
from oneforone.comers import broken, is_broken, is_unclear, marks_of, unclear
from oneforone.dials import Dials
from oneforone.errors import InvalidSize
from oneforone.failures import Broken, Disordered
from oneforone.totals import Total, least, total_of
from tests.cases import NO_INTEGERS, Case
from tests.runs import LAST, ODD, SOME, disordered_totals, disguised, modular, orderless_totals, sign, signs_of_bags
from tests.test_orders import shows_disorder
from tests.walks import all_bags, any_values, is_int, mutants, plus


def is_bag(total, value, least_size, most_size):
    return (type(value) is tuple and least_size <= len(value) <= most_size
            and all(is_int(each) and 0 <= each < total.many for each in value) and list(value) == sorted(value))


def shows_unclear(total, size, value):
    if type(value) is not tuple or len(value) != 4 or not all(is_bag(total, bag, size - 1, size - 1) for bag in value[:2]):
        return False
    if not all(is_int(each) and 0 <= each < total.many for each in value[2:]):
        return False
    one, other, a, c = value
    return a != c and sign(total, one) == sign(total, other) and sign(total, one + (a,)) == sign(total, other + (c,))


def shows_broken(total, value):
    if type(value) is not tuple or len(value) != 4 or not all(is_bag(total, bag, 0, 60) for bag in value[1:3]):
        return False
    word, one, other, more = value
    if len(one) != len(other) or not is_int(more) or not 0 <= more < total.many:
        return False
    like = sign(total, one) == sign(total, other)
    with_more = sign(total, one + (more,)) == sign(total, other + (more,))
    if word == "comes":
        return like and not with_more
    return word == "goes" and not like and with_more


def is_clear(total, size):
    rows = sorted({(sign(total, bag),) + tuple(sign(total, plus(bag, value)) for value in range(total.many))
                   for bag in all_bags(total.many, size - 1)})
    return not any(one[0] == other[0] and a != c and one[1 + a] == other[1 + c]
                   for one in rows for other in rows for a in range(total.many) for c in range(total.many))


def breaks(total, most):
    """Whether bags of some size up to the most break the total, by all bags."""
    for size in range(most + 1):
        rows = {(sign(total, bag), value, sign(total, bag + (value,)))
                for bag in all_bags(total.many, size) for value in range(total.many)}
        for here, value, after in rows:
            for there, more, beyond in rows:
                if value == more and (here == there) != (after == beyond):
                    return True
    return False


GOES = SOME
LATE = Total(2, [[1, 2], [3, 4], [4, 3], [3, 4], [4, 3]], [0, 0, 0, 1, 2])
COMES = modular([3], [[0], [1]], [0, 0, 1])


class Unclear(Case):
    def test_by_the_words(self):
        told = set()
        for total in orderless_totals():
            for size in range(1, 7) if total.many < 4 else (1, 2, 3):
                found = unclear(total, size)
                told.add(found is None)
                self.assertEqual(found is None, is_clear(total, size))
                self.assertEqual(found is None, answer_at(calendar(total, "clear"), size))
                if found is not None:
                    self.assertTrue(shows_unclear(total, size, found))
                    self.assertIs(is_unclear(total, size, found), True)
        self.assertEqual(told, {True, False})
        self.assertIs(type(unclear(modular([5], [[0], [1], [2], [3]], [0, 0, 1, 1, 2]), 6)), tuple)

    def test_equal_bags(self):
        total = Total(3, [[1, 1, 2], [1, 1, 2], [2, 2, 2]], [0, 1, 2])
        self.assertIs(is_unclear(total, 1, ((), (), 0, 1)), True)
        self.assertIs(is_unclear(total, 1, ((), (), 1, 0)), True)
        self.assertIs(is_unclear(total, 1, ((), (), 0, 2)), False)
        self.assertIs(is_unclear(total, 1, ((), (), 0, 0)), False)

    def test_judge(self):
        three = modular([4], [[0], [1], [2]], [0, 1, 0, 1])
        for total, size in ((SOME, 1), (SOME, 2), (SOME, 6), (ODD, 3), (three, 2), (three, 3)):
            right = unclear(total, size) or (((0,) * (size - 1),) * 2 + (0, 1))
            values = any_values() + list(mutants(right)) + [right[::-1], right[1::-1] + right[2:], right[:2] + right[:1:-1]]
            bags = all_bags(total.many, size - 1)
            values += list(product(bags[:4], bags[-3:], range(total.many + 1), range(total.many)))
            values += [([], (), 0, 1), ((), (), True, 0), ((0,) * size, (0,) * size, 0, 1), ((1, 0), (0, 1), 0, 1)]
            self.judges(lambda value: is_unclear(total, size, value),
                        lambda value: shows_unclear(total, size, value), values)

    def test_errors_in_order(self):
        for wrong in NO_INTEGERS + [0, 7, -1]:
            for total in (ODD, LAST):
                self.refuses(InvalidSize, wrong, unclear, total, wrong)
                self.refuses(InvalidSize, wrong, is_unclear, total, wrong, None)
        for total in disordered_totals():
            self.fails_with(Disordered, lambda value: shows_disorder(total, value), unclear, total, 2)
            self.fails_with(Disordered, lambda value: shows_disorder(total, value), is_unclear, total, 2, None)


class Breaking(Case):
    def test_by_the_words(self):
        words = set()
        for total in orderless_totals():
            found = broken(total)
            words.add(None if found is None else found[0])
            self.assertEqual(found is not None, breaks(total, {1: 14, 2: 14, 3: 9, 4: 7}[total.many]))
            if found is not None:
                self.assertTrue(shows_broken(total, found))
                self.assertIs(is_broken(total, found), True)
        self.assertEqual(words, {None, "comes", "goes"})

    def test_broken_one_way_only(self):
        for total, word, other_word in ((GOES, "goes", "comes"), (LATE, "comes", "goes")):
            self.assertEqual(broken(total)[0], word)
            self.assertTrue(shows_broken(total, broken(total)))
            self.fails_with(Broken, lambda value: shows_broken(total, value), marks_of, total)
            for size in range(7):
                for one, other, value in product(all_bags(2, size), all_bags(2, size), (0, 1)):
                    self.assertIs(is_broken(total, (other_word, one, other, value)), False)

    def test_broken_far_away_only(self):
        far = Total(2, [[0, 1], [1, 2], [2, 3], [3, 4], [4, 5], [5, 6], [6, 0]], [0] * 6 + [1])
        self.assertTrue(shows_broken(far, broken(far)))
        self.assertFalse(breaks(far, 4))

    def test_judge(self):
        for total in (SOME, ODD, COMES, modular([4], [[0], [1], [2]], [0, 0, 1, 2])):
            right = broken(total) or ("goes", (0,), (1,), 1)
            values = any_values() + list(mutants(right)) + [("comes",) + right[1:], ("goes",) + right[1:], list(right),
                                                            (right[0], right[2], right[1], right[3])]
            for size in (0, 1, 2, 3):
                bags = all_bags(total.many, size)
                values += list(product(("comes", "goes"), bags, bags, range(total.many)))
            values += [("comes", (0,), (0, 1), 0), ("goes", (), (1,), 1), ("goes", [0], (1,), 1), ("goes", (1, 0), (1, 1), 1),
                       ("Goes", (0,), (1,), 1), (None, (0,), (1,), 1), ("goes", (0,), (1,), True), ("goes", (0,), (1,))]
            self.judges(lambda value: is_broken(total, value), lambda value: shows_broken(total, value), values)

    def test_sixty_values(self):
        for many, answer in ((59, True), (60, True), (61, False)):
            value = ("goes", (0,) * many, (0,) * (many - 1) + (1,), 1)
            self.assertIs(is_broken(SOME, value), answer)
        self.assertIs(is_broken(SOME, ("goes", (), (), 1)), False)
        self.assertIs(is_broken(SOME, ("goes", (0,) * 60, (0,) * 58 + (1,), 1)), False)

    def test_disordered(self):
        for total in disordered_totals():
            self.fails_with(Disordered, lambda value: shows_disorder(total, value), broken, total)
            self.fails_with(Disordered, lambda value: shows_disorder(total, value), is_broken, total, None)
            self.fails_with(Disordered, lambda value: shows_disorder(total, value), marks_of, total)


class Marks(Case):
    def right(self, total, dials):
        self.assertIs(type(dials), Dials)
        self.assertEqual(dials.many, total.many)
        self.assertTrue(all(around >= 2 for around in dials.rounds))
        for size in list(range(1, {1: 16, 2: 17, 3: 10, 4: 8}[total.many])):
            first = {}
            back = {}
            for bag, shown in zip(all_bags(total.many, size), signs_of_bags(total, size)):
                found = dials.sum_of(bag)
                self.assertEqual(first.setdefault(shown, found), found)
                self.assertEqual(back.setdefault(found, shown), shown)

    def test_marks(self):
        rolls = random.Random(87)
        totals = list(orderless_totals())
        for rounds, marks in (([7], [[0], [3], [5]]), ([2, 3], [[1, 1], [0, 2]]), ([6], [[1], [4], [2], [3]]),
                              ([2, 2], [[0, 1], [1, 1], [1, 0]]), ([5], [[2], [2], [3]]), ([4], [[1], [3]])):
            many = 1
            for around in rounds:
                many *= around
            for total in (total_of(Dials(rounds, marks)), modular(rounds, marks, rolls.sample(range(-9, 9), many))):
                self.assertIsNone(broken(total))
                totals += [total, disguised(rolls, total)]
        found = set()
        for total in totals:
            if broken(total) is None:
                dials = marks_of(total)
                found.add(dials.rounds)
                self.right(total, dials)
            else:
                self.fails_with(Broken, lambda value: shows_broken(total, value), marks_of, total)
        self.assertTrue({(), (2,), (7,), (2, 2)} <= found)

    def test_signs_that_do_not_depend_on_the_things(self):
        for total in (Total(3, [[0, 0, 0]], [4]), modular([3], [[1], [1], [1]], [0, 1, 1]), Total(1, [[1], [1]], [0, 5])):
            self.assertEqual(marks_of(total).rounds, ())
            self.right(total, marks_of(total))

    def test_signs_of_unlike_sizes_do_not_count(self):
        total = modular([4], [[1], [3]], [0, 7, 0, 7])
        self.assertIsNone(broken(total))
        self.assertEqual(marks_of(total).rounds, ())
        total = Total(2, [[1, 2], [2, 1], [1, 2]], [3, 3, 4])
        self.right(total, marks_of(total))
        self.assertEqual(least(total), total)

    def test_seven_elements(self):
        total = total_of(Dials([7], [[2], [3]]))
        self.assertEqual(marks_of(total).rounds, (7,))
        self.right(total, marks_of(total))


if __name__ == "__main__":
    unittest.main()
