import unittest
from itertools import product

from oneforone.adding import number_of_signs
from oneforone.blocks import even, seen, sharp
from oneforone.boards import Board, count_board
from oneforone.caps import caps_board, cheap_sharp, least_caps
from oneforone.dials import Dials, dials_board
from oneforone.errors import InvalidCaps, InvalidSize, InvalidValues
from tests.cases import NO_INTEGERS, NO_LISTS, Case
from tests.walks import LONG, all_bags

NO_CAPS = NO_LISTS + [[], (), [0], [-1], [1, 0], [1] * 5, [True], [1, True], [None], ["1"], [[1]], [(1,)], [1, 2, 0]]


def some_caps():
    for many in (1, 2, 3):
        yield from (list(caps) for caps in product((1, 2, 3), repeat=many))
    yield from ([1, 1, 1, 1], [1, 2, 3, 1], [2, 2, 2, 2], [4, 1], [4, 3], [5, 5], [7, LONG], [LONG], [LONG] * 4,
                [3, LONG, 2], [LONG, 1, LONG, LONG])


class Caps(Case):
    def test_boards(self):
        for caps in some_caps():
            for size in (1, 2, 3, 4, 6):
                bags = all_bags(len(caps), size)
                counts = [tuple(min(bag.count(value), cap) for value, cap in enumerate(caps)) for bag in bags]
                places = sorted(set(counts))
                right = Board(len(caps), size, [places.index(each) for each in counts])
                self.assertEqual(caps_board(caps, size), right)
                self.assertEqual(caps_board(tuple(caps), size), right)

    def test_least_caps(self):
        for caps in some_caps():
            right = 7 if len(caps) == 1 else sum(sorted(caps)[:2])
            self.assertEqual([least_caps(caps), least_caps(tuple(caps))], [right, right])
        self.assertEqual(least_caps([LONG, LONG]), 2 * LONG)

    def test_sizes_below_at_and_above_the_least_caps(self):
        for caps in some_caps():
            for size in range(1, 7):
                board = caps_board(caps, size)
                self.assertEqual([seen(board), even(board), sharp(board)], [size <= least_caps(caps)] * 3)

    def test_caps_that_tell_all(self):
        self.assertEqual([caps_board([LONG, 3], 2).signs, caps_board([1], 6).signs], [(2, 1, 0), (0,)])
        self.assertEqual(number_of_signs(caps_board([6, 6, 6], 6)), len(count_board(3, 6)))

    def test_wrong_caps_ahead_of_wrong_sizes(self):
        for wrong in NO_CAPS:
            self.refuses(InvalidCaps, wrong, caps_board, wrong, 2)
            self.refuses(InvalidCaps, wrong, caps_board, wrong, 0)
            self.refuses(InvalidCaps, wrong, least_caps, wrong)
        for wrong in NO_INTEGERS + [0, 7, -1]:
            self.refuses(InvalidSize, wrong, caps_board, [1, 2], wrong)


class Cheap(Case):
    def test_dials(self):
        self.assertEqual([cheap_sharp(values) for values in (1, 2, 3, 4)],
                         [Dials([2], [[0]]), Dials([3], [[0], [1]]), Dials([7], [[0], [1], [3]]),
                          Dials([13], [[0], [1], [3], [9]])])

    def test_boards_are_sharp(self):
        for values in (1, 2, 3, 4):
            for size in range(1, 7):
                board = dials_board(cheap_sharp(values), size)
                self.assertTrue(sharp(board))
                if size >= values:
                    self.assertEqual(number_of_signs(board), values * values - values + 1)

    def test_wrong_numbers_of_values(self):
        for wrong in NO_INTEGERS + [0, 5, -1]:
            self.refuses(InvalidValues, wrong, cheap_sharp, wrong)


if __name__ == "__main__":
    unittest.main()
