import unittest
from math import comb

from oneforone.bags import added, bag_index, bags, count_bags, removed
from oneforone.errors import InvalidBag, InvalidSize, InvalidValue, InvalidValues
from oneforone.failures import NotInBag
from tests.cases import NO_INTEGERS, Case
from tests.walks import all_bags


class Bags(Case):
    def test_all_values_and_sizes(self):
        for values in range(1, 5):
            for size in range(7):
                found = bags(values, size)
                self.assertIs(type(found), list)
                self.assertEqual(found, all_bags(values, size))
                self.assertEqual(found, sorted(set(found)))
                self.assertEqual(count_bags(values, size), comb(values + size - 1, size))
                self.assertEqual([bag_index(values, bag) for bag in found], list(range(len(found))))

    def test_the_only_bag_of_no_values(self):
        for values in range(1, 5):
            self.assertEqual(bags(values, 0), [()])
            self.assertEqual(count_bags(values, 0), 1)
            self.assertEqual(bag_index(values, ()), 0)

    def test_wrong_numbers(self):
        for function in (bags, count_bags):
            for wrong in NO_INTEGERS + [0, 5, -1, 10 ** 19]:
                self.refuses(InvalidValues, wrong, function, wrong, 2)
                self.refuses(InvalidValues, wrong, function, wrong, 7)
            for wrong in NO_INTEGERS + [-1, 7, 10 ** 19]:
                self.refuses(InvalidSize, wrong, function, 2, wrong)

    def test_index_of_wrong_arguments(self):
        for wrong in NO_INTEGERS + [0, 5]:
            self.refuses(InvalidValues, wrong, bag_index, wrong, (0,))
            self.refuses(InvalidValues, wrong, bag_index, wrong, [0])
        for wrong in [None, True, 0, "0", [], [0], (1, 0), (0, 2), (-1,), (True,), (False, 0), (0, None), ((0,),), {},
                      (0,) * 7, (0, 0, 0, 1, 1, 1, 1)]:
            self.refuses(InvalidBag, wrong, bag_index, 2, wrong)
        self.assertEqual(bag_index(2, (1,) * 6), 6)

    def test_one_value_more(self):
        for size in range(7):
            for bag in all_bags(4, size):
                for value in range(4):
                    self.assertEqual(added(bag, value), tuple(sorted(bag + (value,))))

    def test_one_value_less(self):
        for size in range(7):
            for bag in all_bags(4, size):
                for value in range(4):
                    if value in bag:
                        self.assertEqual(plus_again(removed(bag, value), value), bag)
                    else:
                        self.fails(NotInBag, {"value": value}, removed, bag, value)

    def test_wrong_bags_and_values(self):
        for function in (added, removed):
            for wrong in [None, True, 0, "0", [], [0, 1], (1, 0), (0, 4), (-1, 0), (True,), (0, False), (0,) * 7, {}]:
                self.refuses(InvalidBag, wrong, function, wrong, 0)
                self.refuses(InvalidBag, wrong, function, wrong, 4)
            for wrong in NO_INTEGERS + [-1, 4, 10 ** 19]:
                self.refuses(InvalidValue, wrong, function, (0, 1), wrong)
        self.refuses(InvalidValue, 4, removed, (), 4)


def plus_again(bag, value):
    return tuple(sorted(bag + (value,)))


if __name__ == "__main__":
    unittest.main()
