import random
import unittest
from itertools import product

from oneforone.blocks import even, seen, sharp
from oneforone.boards import Board, count_board, renamed, tells_no_less
from oneforone.dials import Dials, dials_board
from oneforone.errors import InvalidBag
from oneforone.failures import NoMixture
from oneforone.mixtures import border_board, is_mixture, mixture, sum_marks, sum_shadow
from oneforone.shadows import shadow
from tests.cases import NO_BAGS_OF_TWO, Case
from tests.walks import (all_bags, any_values, border, every_board, first_board, is_bag, is_even, klein_board, mutants,
                         random_boards, signs_by_bag, some_dials, sums_board)


def counts(bag, values):
    return [bag.count(value) for value in range(values)]


def mixes(board, one, other, value):
    """By the words of the point."""
    if type(value) not in (list, tuple):
        return False
    signs = signs_by_bag(board)
    left = [a - b for a, b in zip(counts(one, board.many), counts(other, board.many))]
    for part in value:
        if type(part) is not tuple or len(part) != 3 or not all(is_bag(board, bag, board.size) for bag in part[:2]):
            return False
        first, second, times = part
        if signs[first] != signs[second] or first == second or type(times) is not int or times == 0:
            return False
        more = [a - b for a, b in zip(counts(first, board.many), counts(second, board.many))]
        left = [number - times * each for number, each in zip(left, more)]
    return not any(left)


def cells(gaps, values):
    """By another way than the program: the lattice of the gaps as the sums that a search reaches, in a box."""
    found = {(0,) * values}
    waiting = list(found)
    steps = [tuple(sign * number for number in gap) for gap in gaps for sign in (1, -1)]
    while waiting:
        at = waiting.pop()
        for step in steps:
            after = tuple(a + b for a, b in zip(at, step))
            if after not in found and max(map(abs, after)) <= 13:
                found.add(after)
                waiting.append(after)
    return found


def slow_like(board):
    """For each two bags whether a mixture is found for them by the search in a box."""
    signs = signs_by_bag(board)
    gaps = {tuple(a - b for a, b in zip(counts(one, board.many), counts(other, board.many)))
            for one in signs for other in signs if signs[one] == signs[other] and one < other}
    reached = cells(gaps, board.many)
    return {(one, other): tuple(a - b for a, b in zip(counts(one, board.many), counts(other, board.many))) in reached
            for one in signs for other in signs}


def boards():
    found = [Board(1, 3, [4]), Board(3, 1, [1, 2, 1]), Board(4, 1, [0, 0, 0, 0]), border(), first_board(), count_board(4, 2),
             Board(2, 6, [0, 1, 2, 3, 0, 4, 0]), Board(2, 5, [0, 1, 0, 2, 3, 0]), Board(4, 6, [0] * 84), klein_board(4)]
    found += every_board(2, 3) + every_board(2, 4)[::4] + every_board(3, 2)[::9]
    for values, size in ((2, 5), (2, 6), (3, 3), (3, 4), (4, 2), (4, 3)):
        found += random_boards(74, values, size, 3)
    for marks, modulus in (([0, 1, 2], 4), ([0, 2, 3], 5), ([0, 3, 5, 6], 0), ([0, 1, 3, 9], 13)):
        found.append(sums_board(3, marks, modulus))
    return found


def pair_boards():
    """Boards in which few bags are like, so that whole multiples count."""
    rolls = random.Random(75)
    found = []
    for values, size in ((2, 6), (3, 3), (3, 5), (4, 3)):
        many = len(all_bags(values, size))
        for _ in range(6):
            signs = list(range(many))
            for _ in range(rolls.randint(1, 4)):
                signs[rolls.randrange(many)] = signs[rolls.randrange(many)]
            found.append(Board(values, size, signs))
    return found


class Mixtures(Case):
    def test_by_the_words(self):
        told = set()
        for board in boards() + pair_boards():
            signs = signs_by_bag(board)
            below = signs_by_bag(sum_shadow(board))
            for one, other in list(product(signs, repeat=2))[::max(len(signs) ** 2 // 150, 1)]:
                told.add(below[one] == below[other])
                if below[one] == below[other]:
                    value = mixture(board, one, other)
                    self.assertIs(type(value), list)
                    self.assertTrue(mixes(board, one, other, value))
                    self.assertIs(is_mixture(board, one, other, value), True)
                else:
                    self.fails(NoMixture, {"one": one, "other": other}, mixture, board, one, other)
        self.assertEqual(told, {True, False})

    def test_whole_multiples(self):
        # Like bags that differ by 2 and by 5 values 1: one more value 1 needs 2 * -2 + 5.
        board = Board(2, 6, [0, 1, 0, 2, 3, 4, 5])
        self.assertEqual(sum_shadow(board), Board(2, 6, [0, 1, 0, 1, 0, 1, 0]))
        self.fails(NoMixture, {"one": (0,) * 5 + (1,), "other": (0,) * 6}, mixture, board, (0,) * 5 + (1,), (0,) * 6)
        value = mixture(board, (1,) * 6, (0,) * 6)
        self.assertEqual(sum(abs(times) for _, _, times in value), 3)
        both = Board(2, 6, [0, 1, 0, 2, 3, 0, 5])
        value = mixture(both, (0,) * 5 + (1,), (0,) * 6)
        self.assertTrue(any(abs(times) > 1 for _, _, times in value))
        self.assertTrue(mixes(both, (0,) * 5 + (1,), (0,) * 6, value))
        self.assertEqual(sum_shadow(both), Board(2, 6, [0] * 7))

    def test_the_empty_mixture(self):
        for board in boards():
            for bag in all_bags(board.many, board.size)[:4]:
                self.assertEqual(mixture(board, bag, bag), [])
                self.assertIs(is_mixture(board, bag, bag, []), True)
                self.assertIs(is_mixture(board, bag, bag, ()), True)
        self.assertIs(is_mixture(count_board(2, 2), (0, 0), (0, 1), []), False)

    def test_wrong_bags(self):
        board = Board(2, 2, [0, 1, 1])
        for wrong in NO_BAGS_OF_TWO + [(0, 2)]:
            self.refuses(InvalidBag, wrong, mixture, board, wrong, (0, 0))
            self.refuses(InvalidBag, wrong, mixture, board, wrong, None)
            self.refuses(InvalidBag, wrong, mixture, board, (0, 0), wrong)
            self.refuses(InvalidBag, wrong, is_mixture, board, wrong, (0, 0), [])
            self.refuses(InvalidBag, wrong, is_mixture, board, wrong, None, [])
            self.refuses(InvalidBag, wrong, is_mixture, board, (0, 0), wrong, None)

    def test_judge(self):
        small = Board(2, 2, [0, 0, 0])
        like = Board(3, 2, [0, 1, 2, 0, 0, 2])
        for board, one, other in ((small, (0, 0), (1, 1)), (small, (0, 0), (0, 0)), (like, (0, 0), (1, 2)),
                                  (like, (0, 1), (2, 2)), (border(), (1, 2, 2), (0, 0, 0)), (small, (1, 1), (0, 1))):
            values = any_values() + list(mutants([((0, 0), (1, 1), 1), ((0, 1), (1, 1), -1)]))
            if sum_shadow(board).sign(one) == sum_shadow(board).sign(other):
                right = mixture(board, one, other)
                values += [right, tuple(right), right + right, [part + (0,) for part in right]] + list(mutants(right))
                values += [[(second, first, -times) for first, second, times in right], [list(part) for part in right]]
            pairs = [(a, b) for a in all_bags(board.many, board.size) for b in all_bags(board.many, board.size)][:30]
            values += [[pair + (times,)] for pair in pairs for times in (-2, -1, 0, 1, 2)]
            self.judges(lambda value: is_mixture(board, one, other, value),
                        lambda value: mixes(board, one, other, value), values)

    def test_the_same_pair_twice(self):
        board = Board(2, 2, [0, 0, 0])
        part = ((0, 0), (0, 1), 1)
        self.assertIs(is_mixture(board, (0, 0), (1, 1), [part, part]), True)
        self.assertIs(is_mixture(board, (0, 0), (1, 1), [part, ((0, 1), (0, 0), -1)]), True)
        self.assertIs(is_mixture(board, (0, 0), (1, 1), [part]), False)
        self.assertIs(is_mixture(board, (0, 0), (0, 0), [part, ((0, 1), (0, 0), 1)]), True)
        self.assertIs(is_mixture(board, (0, 0), (1, 1), [((0, 0), (0, 1), 2)]), True)
        self.assertIs(is_mixture(board, (0, 0), (0, 0), [((0, 0), (0, 0), 1)]), False)
        self.assertIs(is_mixture(board, (0, 0), (1, 1), [((0, 0), (1, 1), True)]), False)
        self.assertIs(is_mixture(count_board(2, 2), (0, 0), (1, 1), [((0, 0), (1, 1), 1)]), False)


class SumShadows(Case):
    def test_by_a_search(self):
        for board in [board for board in boards() + pair_boards() if board.many <= 3 and board.size <= 6]:
            like = slow_like(board)
            below = signs_by_bag(sum_shadow(board))
            for one, other in like:
                self.assertEqual(below[one] == below[other], like[one, other], (board.line(), one, other))

    def test_what_holds_for_all(self):
        for board in boards() + pair_boards():
            found = sum_shadow(board)
            self.assertEqual(found, renamed(found))
            self.assertTrue(is_even(found) if len(found) < 30 else even(found))
            self.assertTrue(tells_no_less(board, found))
            middle = shadow(board)
            self.assertTrue(tells_no_less(middle, found))
            self.assertEqual(sum_shadow(middle), found)
            self.assertEqual(sum_shadow(found), found)
            if board.many == 2:
                self.assertEqual(found, middle)

    def test_all_sizes(self):
        for values, size in product((1, 2, 3, 4), range(1, 7)):
            self.assertEqual(sum_shadow(count_board(values, size)), count_board(values, size))
            for board in random_boards(76, values, size, 2):
                self.assertTrue(tells_no_less(board, sum_shadow(board)) and even(sum_shadow(board)))


class Marks(Case):
    def right(self, board, dials):
        self.assertIs(type(dials), Dials)
        self.assertEqual(dials.many, board.many)
        self.assertEqual(dials.marks[0], (0,) * len(dials.rounds))
        below = signs_by_bag(sum_shadow(board))
        for one in below:
            for other in below:
                self.assertEqual(below[one] == below[other], dials.sum_of(one) == dials.sum_of(other))

    def test_marks(self):
        sorts = set()
        for board in boards() + pair_boards():
            dials = sum_marks(board)
            self.right(board, dials)
            sorts.add((0 in dials.rounds, any(dials.rounds)))
        self.assertEqual(sorts, {(False, False), (True, False), (False, True), (True, True)})

    def test_marks_of_dials(self):
        for dials in some_dials():
            for size in (1, 2, 3, 5):
                board = dials_board(dials, size)
                self.right(board, sum_marks(board))
                self.assertEqual(sum_shadow(board), renamed(board))

    def test_endless_and_round_dials_together(self):
        given = Dials([0, 3], [[0, 0], [1, 0], [0, 1]])
        dials = sum_marks(dials_board(given, 4))
        self.assertEqual(sorted(dials.rounds), [0, 3])

    def test_several_round_dials(self):
        self.assertEqual(sorted(sum_marks(klein_board(4)).rounds), [2, 2])
        cube = Dials([2, 2, 2], [[0, 0, 0], [1, 0, 0], [0, 1, 0], [0, 0, 1]])
        self.assertEqual(sorted(sum_marks(dials_board(cube, 6)).rounds), [2, 2, 2])
        self.right(dials_board(cube, 6), sum_marks(dials_board(cube, 6)))

    def test_no_dial_at_all(self):
        for board in (Board(1, 4, [3]), Board(3, 2, [5] * 6), Board(2, 6, [0, 1, 0, 2, 3, 0, 5])):
            self.assertEqual(sum_marks(board).rounds, ())
            self.assertEqual(sum_marks(board).marks, ((),) * board.many)

    def test_no_sums(self):
        self.assertNotEqual(sum_shadow(border()), renamed(border()))


class Border(Case):
    def test_every_pair_of_bags(self):
        board = border_board()
        self.assertEqual([board.many, board.size], [3, 3])
        self.assertEqual(board, renamed(board))
        pairs = [(one, other) for one in all_bags(3, 3) for other in all_bags(3, 3)
                 if one < other and board.sign(one) == board.sign(other)]
        self.assertEqual(pairs, [((0, 0, 2), (1, 1, 1)), ((0, 1, 1), (2, 2, 2))])
        self.assertTrue(even(board) and seen(board) and sharp(board))
        self.assertNotEqual(sum_shadow(board), board)
        self.assertEqual(shadow(board), board)


if __name__ == "__main__":
    unittest.main()
