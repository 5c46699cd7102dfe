import unittest
from itertools import product

from oneforone.adding import added_up, adding, number_of_kinds, number_of_signs, sum_boards
from oneforone.boards import Board, count_board, renamed
from oneforone.errors import InvalidBag, InvalidValues
from oneforone.failures import NoMove, NotEven, TooSmall
from tests.cases import NO_INTEGERS, Case
from tests.walks import (all_bags, all_moves, block_list, even_boards, every_board, first_board, is_even, is_seen,
                         is_sharp, klein_board, random_boards, seen_even_boards, shows_uneven, signs_by_bag,
                         small_boards, sums_board)

THREE = Board(3, 2, [0, 1, 2, 2, 0, 1])


class Numbers(Case):
    def test_number_of_signs_of_any_board(self):
        boards = small_boards() + random_boards(5, 4, 5, 4)
        self.assertEqual({(is_even(board), is_seen(board), board.size == 1) for board in boards},
                         {(True, True, True), (True, False, True), (True, True, False), (True, False, False),
                          (False, True, False), (False, False, False)})
        for board in boards:
            self.assertEqual(number_of_signs(board), len(set(board.signs)))
        self.assertEqual(number_of_signs(Board(2, 1, [10 ** 19, -10 ** 19])), 2)

    def test_number_of_kinds(self):
        for board in small_boards():
            if board.size == 1:
                self.fails(TooSmall, {"size": 1}, number_of_kinds, board)
            elif is_even(board):
                self.assertEqual(number_of_kinds(board), len(block_list(board)))
            else:
                self.fails_with(NotEven, lambda value: shows_uneven(board, value), number_of_kinds, board)

    def test_boards_that_are_not_seen_have_kinds(self):
        self.assertEqual(number_of_kinds(Board(2, 2, [0, 0, 0])), 1)

    def test_least_and_greatest_numbers(self):
        for board in seen_even_boards():
            many, signs, kinds = board.many, number_of_signs(board), number_of_kinds(board)
            whole = len(all_moves(board)) == many
            self.assertTrue(signs >= many and many <= kinds <= many * many - many + 1)
            self.assertEqual([signs == many, kinds == many, kinds == many * many - many + 1],
                             [whole, whole, is_sharp(board)])
            self.assertTrue(board.size < many or signs >= kinds)


class Adding(Case):
    def table(self, board):
        found = all_moves(board)
        lead = {move[0]: move for move in found}
        return [[lead[a][b] for b in range(board.many)] for a in range(board.many)] if len(lead) == board.many else None

    def test_tables(self):
        told = 0
        for board in seen_even_boards():
            table = self.table(board)
            if table is None:
                least = min(set(range(board.many)) - {move[0] for move in all_moves(board)})
                self.fails(NoMove, {"one": 0, "other": least}, adding, board)
                self.fails(NoMove, {"one": 0, "other": least}, added_up, board, all_bags(board.many, board.size)[-1])
                continue
            told += 1
            found = adding(board)
            self.assertEqual(found, table)
            self.assertTrue(type(found) is list and all(type(row) is list for row in found))
            for a, b, c in product(range(board.many), repeat=3):
                self.assertEqual([found[0][a], found[a][b]], [a, found[b][a]])
                self.assertEqual(found[found[a][b]][c], found[a][found[b][c]])
            signs = signs_by_bag(board)
            sums = {}
            for bag in signs:
                total = 0
                for value in bag:
                    total = table[total][value]
                sums[bag] = total
                self.assertEqual(added_up(board, bag), total)
            for one in signs:
                for other in signs:
                    self.assertEqual(signs[one] == signs[other], sums[one] == sums[other])
        self.assertGreater(told, 6)

    def test_least_value_without_a_move(self):
        self.fails(NoMove, {"one": 0, "other": 2}, adding, first_board())
        self.fails(NoMove, {"one": 0, "other": 1}, adding, count_board(4, 2))

    def test_wrong_bags_come_ahead_of_no_move(self):
        for wrong in [None, True, [], [0, 1], (0,), (0, 0, 0), (1, 0), (0, 3), (0, True), "01", {}]:
            self.refuses(InvalidBag, wrong, added_up, THREE, wrong)
            self.refuses(InvalidBag, wrong, added_up, count_board(3, 2), wrong)
        self.fails(NoMove, {"one": 0, "other": 1}, added_up, count_board(3, 2), (0, 0))


def group_tables(values):
    """All tables of sums of a commutative group of the values with the zero 0, tried one by one."""
    pairs = [(a, b) for a in range(1, values) for b in range(a, values)]
    for sums in product(range(values), repeat=len(pairs)):
        table = [[a + b if 0 in (a, b) else None for b in range(values)] for a in range(values)]
        for (a, b), total in zip(pairs, sums):
            table[a][b] = table[b][a] = total
        if (all(0 in row for row in table)
                and all(table[table[a][b]][c] == table[a][table[b][c]] for a, b, c in product(range(values), repeat=3))):
            yield table


class SumBoards(Case):
    def test_all_groups(self):
        for values, many in ((1, 1), (2, 1), (3, 1), (4, 4)):
            found = sum_boards(values)
            self.assertIs(type(found), list)
            self.assertEqual(len(found), many)
            signs = sorted([table[a][b] for a, b in all_bags(values, 2)] for table in group_tables(values))
            self.assertEqual([list(board.signs) for board in found], signs)
            self.assertTrue(all((board.many, board.size) == (values, 2) for board in found))

    def test_boards_of_size_two(self):
        boards = every_board(1, 2) + every_board(2, 2) + every_board(3, 2) + random_boards(2, 4, 2, 30)
        boards += sum_boards(4) + [klein_board(2), sums_board(2, [0, 2, 3, 1], 4), first_board()]
        for board in boards:
            right = is_even(board) and is_seen(board) and number_of_signs(board) == board.many
            self.assertEqual(renamed(board) in sum_boards(board.many), right)

    def test_wrong_numbers_of_values(self):
        for wrong in NO_INTEGERS + [0, 5, -1]:
            self.refuses(InvalidValues, wrong, sum_boards, wrong)

    def test_even_boards_are_even(self):
        self.assertTrue(all(is_even(board) for board in even_boards()))


if __name__ == "__main__":
    unittest.main()
