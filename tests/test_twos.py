import unittest
from math import gcd

from oneforone.blocks import blocks, sharp
from oneforone.boards import Board, count_board, renamed
from oneforone.errors import InvalidModulus, InvalidSize
from oneforone.failures import NotTwo, TooSmall
from oneforone.shadows import shadow
from oneforone.twos import (distances, divisor, even_twos, is_loose_match, loose_match, rests, sort_of, turning_match)
from tests.cases import NO_INTEGERS, Case
from tests.walks import (all_changes, all_matches, any_values, every_board, is_change, is_even, is_seen, is_sharp,
                         is_short, match, mutants, random_boards, short_bags, signs_by_bag)

TURNED = [(0, 1), (1, 0)]


def boards():
    found = []
    for size in (1, 2, 3, 4, 5):
        found += every_board(2, size)
    return found + random_boards(72, 2, 6, 60) + [count_board(2, 6), rests(6, 5), rests(6, 6)]


def is_loose(changes):
    return any(a == c for a, c in changes) and any(a != c for a, c in changes)


def shows_loose(board, value):
    if type(value) is not tuple or len(value) != 4 or not all(is_short(board, bag) for bag in value[:2]):
        return False
    if not all(is_change(board, change) for change in value[2:]):
        return False
    changes = match(board, *value[:2])
    (a, c), (b, d) = value[2:]
    return (a, c) in changes and (b, d) in changes and a == c and b != d


class Distances(Case):
    def test_distances_and_divisors(self):
        for board in boards():
            signs = signs_by_bag(board)
            right = sorted({other.count(1) - one.count(1) for one in signs for other in signs
                            if signs[one] == signs[other] and other.count(1) > one.count(1)})
            self.assertEqual(distances(board), right)
            self.assertIs(type(distances(board)), list)
            self.assertEqual(divisor(board), gcd(*right))

    def test_none(self):
        self.assertEqual([distances(count_board(2, 4)), divisor(count_board(2, 4))], [[], 0])
        self.assertEqual([distances(Board(2, 1, [5, 5])), divisor(Board(2, 1, [5, 5]))], [[1], 1])
        self.assertEqual(divisor(Board(2, 6, [0, 1, 2, 3, 0, 4, 0])), 2)

    def test_shadows_of_boards_of_two_values(self):
        for board in boards():
            self.assertEqual(shadow(board), rests(board.size, divisor(board)))


class Rests(Case):
    def test_boards(self):
        for size in range(1, 7):
            for modulus in list(range(9)) + [10 ** 19]:
                right = [number - number // modulus * modulus if modulus else number for number in range(size + 1)]
                self.assertEqual(rests(size, modulus), Board(2, size, right))
        self.assertEqual(rests(3, 1).signs, (0, 0, 0, 0))
        self.assertEqual([rests(3, modulus).signs for modulus in (3, 4, 0)], [(0, 1, 2, 0), (0, 1, 2, 3), (0, 1, 2, 3)])

    def test_wrong_sizes_ahead_of_wrong_moduli(self):
        for wrong in NO_INTEGERS + [0, 7, -1]:
            self.refuses(InvalidSize, wrong, rests, wrong, 2)
            self.refuses(InvalidSize, wrong, rests, wrong, -1)
        for wrong in NO_INTEGERS + [-1, -10 ** 19]:
            self.refuses(InvalidModulus, wrong, rests, 2, wrong)

    def test_even_twos(self):
        for size in range(2, 7):
            found = even_twos(size)
            self.assertIs(type(found), list)
            self.assertEqual(found, [rests(size, modulus) for modulus in list(range(2, size + 1)) + [0]])
        for size in (2, 3, 4, 5):
            right = [board for board in every_board(2, size) if is_even(board) and is_seen(board)]
            self.assertEqual(sorted(board.signs for board in even_twos(size)), sorted(board.signs for board in right))
        for wrong in NO_INTEGERS + [0, 1, 7, -1]:
            self.refuses(InvalidSize, wrong, even_twos, wrong)


class Sorts(Case):
    def test_sorts(self):
        told = set()
        for board in boards():
            if board.size == 1:
                self.fails(TooSmall, {"size": 1}, sort_of, board)
                continue
            matches = all_matches(board).values()
            loose = any(is_loose(changes) for changes in matches)
            right = "sharp" if is_sharp(board) else "loose" if loose else "turning"
            self.assertEqual(sort_of(board), right)
            told.add((right, turning_match(board) is None))
            if right == "turning":
                self.assertIsNotNone(turning_match(board))
        self.assertEqual(told, {("sharp", True), ("turning", False), ("loose", True), ("loose", False)})

    def test_loose_matches(self):
        for board in boards():
            found = loose_match(board)
            loose = any(is_loose(changes) for changes in all_matches(board).values())
            self.assertEqual(found is not None, loose)
            if board.size > 1:
                self.assertEqual(blocks(board) == [all_changes(board)], loose)
            if loose:
                self.assertTrue(shows_loose(board, found))
                self.assertIs(is_loose_match(board, found), True)

    def test_turning_matches(self):
        for board in boards():
            found = turning_match(board)
            right = [pair for pair, changes in all_matches(board).items() if changes == TURNED]
            if right:
                self.assertTrue(type(found) is tuple and found in right)
            else:
                self.assertIsNone(found)

    def test_size_one(self):
        same, unlike = Board(2, 1, [4, 4]), Board(2, 1, [4, 5])
        self.assertTrue(shows_loose(same, loose_match(same)))
        self.assertEqual([loose_match(unlike), turning_match(same), turning_match(unlike)], [None, None, None])
        self.assertIs(is_loose_match(same, ((), (), (1, 1), (0, 1))), True)
        self.assertIs(is_loose_match(unlike, ((), (), (1, 1), (0, 1))), False)
        self.assertTrue(sharp(unlike) and not sharp(same))

    def test_judge(self):
        for board in (Board(2, 3, [0, 1, 1, 0]), Board(2, 2, [0, 1, 0]), Board(2, 1, [0, 0]), count_board(2, 2),
                      Board(2, 4, [0, 0, 1, 2, 0])):
            short, changes = short_bags(board), all_changes(board)
            values = any_values() + [(one, other, change, beyond) for one in short for other in short
                                     for change in changes for beyond in changes]
            values += list(mutants((short[0], short[-1], (1, 1), (1, 0))))
            self.judges(lambda value: is_loose_match(board, value), lambda value: shows_loose(board, value), values)

    def test_not_two_ahead_of_too_small(self):
        for board in (Board(1, 1, [0]), Board(3, 1, [0, 1, 2]), count_board(3, 3), count_board(4, 2), Board(1, 4, [0]),
                      renamed(count_board(4, 1))):
            for function in (distances, divisor, sort_of, loose_match, turning_match):
                self.fails(NotTwo, {"many": board.many}, function, board)
            for value in (None, ((), (), (1, 1), (0, 1))):
                self.fails(NotTwo, {"many": board.many}, is_loose_match, board, value)


if __name__ == "__main__":
    unittest.main()
