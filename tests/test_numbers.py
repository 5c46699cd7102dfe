import unittest
from itertools import combinations, product

from oneforone.boards import Board, count_board
from oneforone.errors import InvalidSet
from oneforone.numbers import is_loosener, loosener, telling_number
from oneforone.scenes import Scene
from tests import sights
from tests.cases import Case
from tests.sights import alike_lists, random_scenes
from tests.walks import (any_values, block_list, is_change, is_even, is_seen, klein_board, mutants, small_boards, sums_board)

SUMS = Board(3, 2, [0, 1, 2, 2, 3, 4])
ODD = Board(2, 2, [0, 1, 0])
NO_SETS = [None, True, 0, "01", {}, [], (), [3], [-1], [1, 0], [0, 0], [0, 1, 1], [True], [False, 1], [0, None], ["0"], [[0]],
           [(0,)], (1, 0), [0, 1, 2, 3]]


def sets(board):
    return [list(each) for size in range(1, board.many + 1) for each in combinations(range(board.many), size)]


def is_right(board, blocks, values, value):
    """By the words of the point."""
    if type(value) is not tuple or len(value) != len(values) or not all(is_change(board, change) for change in value):
        return False
    if [change[0] for change in value] != list(values) or all(a == c for a, c in value):
        return False
    return any(all(change in block for change in value) for block in blocks)


def is_loose(blocks, values):
    """Whether some choice of changes from the values, all in one block, is a loosener."""
    for block in blocks:
        for choice in product(*[[change for change in block if change[0] == value] for value in values]):
            if not all(a == c for a, c in choice):
                return True
    return False


class Looseners(Case):
    def test_by_the_words(self):
        told = set()
        partly = 0
        for board in small_boards()[::2]:
            blocks = block_list(board)
            for values in sets(board):
                found = loosener(board, values)
                told.add(found is None)
                self.assertEqual(found is not None, is_loose(blocks, values), (board.line(), values))
                if found is not None:
                    self.assertTrue(is_right(board, blocks, values, found))
                    self.assertIs(is_loosener(board, tuple(values), found), True)
                    self.assertEqual(loosener(board, tuple(values)), found)
                    partly += any(a == c for a, c in found)
        self.assertEqual(told, {True, False})
        self.assertGreater(partly, 0)

    def test_only_some_of_the_changes_are_unchanged(self):
        board = Board(3, 1, [0, 1, 0])
        self.assertIn(loosener(board, [0, 1]), [((0, 2), (1, 1))])
        self.assertIs(is_loosener(board, [0, 1], ((0, 2), (1, 1))), True)
        self.assertIs(is_loosener(board, [0, 1], ((0, 0), (1, 1))), False)
        self.assertIsNone(loosener(board, [1]))
        self.assertEqual(telling_number(board), None)

    def test_judge(self):
        for board in (SUMS, ODD, Board(3, 1, [0, 1, 0]), Board(2, 2, [0, 1, 1]), klein_board(2), Board(1, 2, [0])):
            blocks = block_list(board)
            changes = list(product(range(-1, board.many + 1), repeat=2))
            for values in sets(board):
                right = loosener(board, values) or tuple((value, value) for value in values)
                listed = any_values() + list(mutants(right)) + [right[::-1], list(right), right + right]
                listed += list(product(changes[:8], repeat=len(values)))[:200] if len(values) < 3 else []
                listed += [((value, there),) for value in values for there in range(board.many)]
                self.judges(lambda value: is_loosener(board, values, value),
                            lambda value: is_right(board, blocks, values, value), listed)

    def test_wrong_sets(self):
        for wrong in NO_SETS:
            self.refuses(InvalidSet, wrong, loosener, SUMS, wrong)
            self.refuses(InvalidSet, wrong, is_loosener, SUMS, wrong, None)


class Numbers(Case):
    def test_against_all_sets(self):
        told = set()
        for board in small_boards() + [sums_board(2, [0, 1, 2, 3])]:
            blocks = block_list(board)
            rigid = {size: [not is_loose(blocks, values) for values in sets(board) if len(values) == size]
                     for size in range(1, board.many + 1)}
            expected = None
            if all(rigid[board.many]):
                expected = min(size for size in rigid if all(rigid[size]))
            found = telling_number(board)
            self.assertEqual(found, expected)
            told.add(found)
        self.assertEqual(told, {None, 1, 2, 3, 4})

    def test_well_known_ones(self):
        self.assertEqual([telling_number(board) for board in (SUMS, ODD, count_board(4, 3), Board(1, 3, [7]))], [3, None, 2, 1])
        self.assertEqual([telling_number(sums_board(2, [0, 1, 2, 3])), telling_number(sums_board(2, [0, 1, 3]))], [4, 2])
        self.assertEqual(telling_number(count_board(2, 1)), 1)

    def test_strands_that_show_so_many_values_are_known(self):
        told = set()
        for scene in random_scenes(112, 60, most_stints=5):
            lists = alike_lists(scene)
            for reader, size in sights.linked_sizes(scene):
                board = sights.board_at(scene, reader, size)
                for strand in sights.strands(scene, reader, size):
                    for history in list(lists)[::13]:
                        shown = sorted({history[stint] for stint in strand})
                        number = telling_number(board)
                        rigid = loosener(board, shown) is None
                        told.add(rigid)
                        self.assertTrue(rigid or number is None or len(shown) < number)
                        if rigid:
                            for other in lists[history]:
                                self.assertEqual([other[stint] for stint in strand], [history[stint] for stint in strand])
        self.assertEqual(told, {True, False})

    def test_fewer_values_are_not_enough_in_even_and_seen_boards(self):
        for board in small_boards():
            if board.size > 1 and is_even(board) and is_seen(board) and telling_number(board) is not None:
                fewer = telling_number(board) - 1
                loose = [values for values in sets(board) if len(values) == fewer and loosener(board, values) is not None]
                self.assertTrue(loose or fewer == 0)

    def test_a_scene_by_hand(self):
        scene = Scene(3, [(SUMS, [[0, 1], [1, 2]])])
        self.assertEqual(alike_lists(scene)[0, 1, 2], [(0, 1, 2)])
        self.assertEqual(alike_lists(scene)[0, 1, 1], [(0, 1, 1), (1, 0, 2)])


if __name__ == "__main__":
    unittest.main()
