import unittest
from itertools import product

from oneforone.boards import Board, count_board
from oneforone.failures import Hidden, NotEven, NotSeen, SumBoard, TooSmall
from oneforone.moves import hiding
from oneforone.renewing import alike_by_renewing, told_by_renewing, unlike_numbers
from oneforone.tables import renew_rows, renew_scene
from tests.cases import Case
from tests.sights import alike_lists
from tests.walks import (all_moves, border, first_board, is_even, klein_board, seen_even_boards, shows_uneven, shows_unseen,
                         small_boards, sums_board)

COUNTS = count_board(2, 3)
FUNCTIONS = (told_by_renewing, alike_by_renewing, unlike_numbers)


def boards():
    """Even and seen boards for which all histories of short scripts can be searched."""
    return [board for board in seen_even_boards() if board.many ** (board.size + 2) <= 1100]


def scripts(board):
    rows = min(board.size, 2)
    found = [[], [0], [0, 0]] + [list(each) for each in product(range(rows), repeat=2)]
    return [script for script in found if board.many ** (board.size + len(script)) <= 1100]


def leads_to_all(board):
    return {move[0] for move in all_moves(board)} == set(range(board.many))


class Told(Case):
    def test_row_0_is_known(self):
        told = set()
        for board in boards():
            others = [move for move in all_moves(board) if move != tuple(range(board.many))]
            told.add(bool(others))
            if others:
                self.fails(Hidden, {"move": others[0]}, told_by_renewing, board)
                self.assertEqual(hiding(board), others[0])
                continue
            found = told_by_renewing(board)
            self.assertEqual([type(found), type(found[0]), type(found[1])], [tuple, list, tuple])
            script, history = found
            scene = renew_scene(board, board.size, script)
            if board.many ** scene.stints > 70000:
                continue
            alike = alike_lists(scene)[history]
            for stint in renew_rows(board.size, script)[0]:
                self.assertEqual({each[stint] for each in alike}, {history[stint]})
        self.assertEqual(told, {True, False})

    def test_large_boards(self):
        for board in (count_board(4, 6), count_board(3, 6), sums_board(6, [0, 1, 2, 3]), border(), Board(1, 6, [5])):
            script, history = told_by_renewing(board)
            scene = renew_scene(board, board.size, script)
            shown = {history[stint] for stint in renew_rows(board.size, script)[0]}
            self.assertEqual([shown, len(history)], [set(range(board.many)), scene.stints])

    def test_another_move_hides_all_stints(self):
        for board in boards():
            if len(all_moves(board)) > 1:
                for script in scripts(board):
                    lists = alike_lists(renew_scene(board, board.size, script))
                    for others in lists.values():
                        for stint in range(board.size + len(script)):
                            self.assertGreater(len({each[stint] for each in others}), 1)


class OneNumber(Case):
    def test_against_several_scripts_and_histories(self):
        told = set()
        for board in boards():
            found = alike_by_renewing(board)
            told.add(found is None)
            self.assertEqual(found is not None, leads_to_all(board))
            numbers = set()
            for script in scripts(board):
                numbers |= {len(others) for others in alike_lists(renew_scene(board, board.size, script)).values()}
            self.assertLessEqual(max(numbers), board.many ** (board.size - 1))
            if found is None:
                self.assertGreater(len(numbers), 1)
            else:
                self.assertEqual([numbers, found], [{found}, board.many ** (board.size - 1)])
        self.assertEqual(told, {True, False})

    def test_known_boards(self):
        self.assertEqual([alike_by_renewing(klein_board(6)), alike_by_renewing(sums_board(6, [0, 1, 2, 3], 4))], [1024, 1024])
        self.assertEqual([alike_by_renewing(Board(1, 6, [3])), alike_by_renewing(first_board())], [1, None])
        self.assertEqual([alike_by_renewing(Board(2, 3, [0, 1, 0, 1])), alike_by_renewing(COUNTS)], [4, None])


class UnlikeNumbers(Case):
    def test_against_a_search(self):
        told = set()
        for board in seen_even_boards():
            told.add(leads_to_all(board))
            if leads_to_all(board):
                self.fails(SumBoard, {}, unlike_numbers, board)
                continue
            found = unlike_numbers(board)
            self.assertEqual([type(found)] + [type(each) for each in found], [tuple, list, tuple, tuple])
            script, one, other = found
            lists = alike_lists(renew_scene(board, board.size, script))
            self.assertNotEqual(len(lists[one]), len(lists[other]))
        self.assertEqual(told, {True, False})


class Errors(Case):
    def test_errors_in_order(self):
        unseen = Board(2, 2, [0, 0, 0])
        for function in FUNCTIONS:
            for board in (Board(2, 1, [0, 0]), Board(2, 1, [0, 1]), Board(1, 1, [0])):
                self.fails(TooSmall, {"size": 1}, function, board)
            self.fails_with(NotSeen, lambda value: shows_unseen(unseen, value), function, unseen)
            for board in small_boards()[::9]:
                if board.size > 1 and not is_even(board):
                    self.fails_with(NotEven, lambda value: shows_uneven(board, value), function, board)


if __name__ == "__main__":
    unittest.main()
