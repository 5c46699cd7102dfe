import unittest
from itertools import product

from oneforone.adding import adding, added_up
from oneforone.boards import Board, count_board
from oneforone.errors import InvalidBag, InvalidMove, InvalidSign, InvalidValue
from oneforone.failures import NoMove, NotEven, NotSeen, TooSmall
from oneforone.moves import (circles_of, hiding, hiding_trades, is_move, keeping, moved, mover, moves, sign_moved)
from tests.cases import NO_INTEGERS, Case
from tests.walks import (all_bags, all_moves, any_values, first_board, klein_board, mutants, seen_even_boards,
                         shows_uneven, shows_unseen, signs_by_bag, steps_of, sums_board)

THREE = Board(3, 2, [0, 1, 2, 2, 0, 1])
SMALL = Board(2, 1, [0, 1])
UNEVEN = Board(2, 2, [0, 1, 1])
UNSEEN = Board(2, 2, [0, 0, 0])


def calls(wrong=False):
    """Each function of this stage with arguments behind the board, right ones or wrong ones."""
    for function in (moves, circles_of, keeping, hiding, hiding_trades, adding):
        yield function, ()
    yield is_move, ("x",) if wrong else ((0, 1),)
    yield mover, ("x", None) if wrong else (0, 1)
    yield moved, ("x", None) if wrong else ((0, 1), (0, 1))
    yield sign_moved, ("x", None) if wrong else (0, (0, 1))
    yield added_up, ("x",) if wrong else ((0, 1),)


class Ahead(Case):
    def test_order_of_the_errors(self):
        for wrong in (False, True):
            for function, given in calls(wrong):
                self.fails(TooSmall, {"size": 1}, function, SMALL, *given)
                self.fails(TooSmall, {"size": 1}, function, Board(2, 1, [0, 0]), *given)
                self.fails_with(NotEven, lambda value: shows_uneven(UNEVEN, value), function, UNEVEN, *given)
                self.fails_with(NotSeen, lambda value: shows_unseen(UNSEEN, value), function, UNSEEN, *given)


def led(bag, move):
    return tuple(sorted(move[value] for value in bag))


class Moves(Case):
    def test_moves(self):
        for board in seen_even_boards():
            found = moves(board)
            self.assertIs(type(found), list)
            self.assertEqual(found, all_moves(board))
            self.assertEqual(found[0], tuple(range(board.many)))
            for move in found[1:]:
                self.assertTrue(all(to != value for value, to in enumerate(move)))
            for one, other in product(found, found):
                behind = tuple(other[value] for value in one)
                self.assertIn(behind, found)
                self.assertEqual(behind, tuple(one[value] for value in other))
            for move in found:
                self.assertTrue(any(tuple(back[value] for value in move) == found[0] for back in found))

    def test_boards_with_few_and_many_moves(self):
        self.assertEqual(moves(count_board(3, 2)), [(0, 1, 2)])
        self.assertEqual(moves(first_board()), [(0, 1, 2, 3), (1, 0, 3, 2)])
        self.assertEqual(len(moves(klein_board(3))), 4)
        self.assertEqual(moves(Board(1, 2, [7])), [(0,)])
        numbers = {len(moves(board)) for board in seen_even_boards()}
        self.assertEqual(numbers, {1, 2, 3, 4})

    def test_judge(self):
        for board in (THREE, first_board(), klein_board(2), Board(1, 3, [4]), sums_board(3, [0, 1], 2)):
            right = all_moves(board)
            values = any_values() + list(product(range(board.many), repeat=board.many))
            for move in right:
                values += [list(move), move + (0,), move[:-1]] + list(mutants(move))
            self.judges(lambda value: is_move(board, value),
                        lambda value: type(value) is tuple and value in right and all(type(each) is int for each in value),
                        values)

    def test_movers(self):
        for board in seen_even_boards():
            found = all_moves(board)
            for one in range(board.many):
                for other in range(board.many):
                    right = [move for move in found if move[one] == other]
                    self.assertLessEqual(len(right), 1)
                    if right:
                        self.assertEqual(mover(board, one, other), right[0])
                    else:
                        self.fails(NoMove, {"one": one, "other": other}, mover, board, one, other)

    def test_circles(self):
        for board in seen_even_boards():
            found = circles_of(board)
            right = {tuple(sorted(move[value] for move in all_moves(board))) for value in range(board.many)}
            self.assertEqual(found, [list(circle) for circle in sorted(right)])
            self.assertEqual(sorted(value for circle in found for value in circle), list(range(board.many)))
            self.assertEqual({len(circle) for circle in found}, {len(all_moves(board))})

    def test_wrong_values(self):
        for wrong in NO_INTEGERS + [-1, 3]:
            self.refuses(InvalidValue, wrong, mover, THREE, wrong, 0)
            self.refuses(InvalidValue, wrong, mover, THREE, wrong, None)
            self.refuses(InvalidValue, wrong, mover, THREE, 0, wrong)


class Moved(Case):
    def test_moved_bags(self):
        for board in seen_even_boards():
            signs = signs_by_bag(board)
            keep = []
            for move in all_moves(board):
                kept = [signs[bag] == signs[led(bag, move)] for bag in signs]
                self.assertIn(set(kept), ({True}, {False}))
                keep += [move] if kept[0] else []
                for bag in list(signs)[::3]:
                    self.assertEqual(moved(board, bag, move), led(bag, move))
            self.assertEqual(keeping(board), keep)
            self.assertEqual(hiding_trades(board), keep[1] if len(keep) > 1 else None)
            found = all_moves(board)
            self.assertEqual(hiding(board), found[1] if len(found) > 1 else None)

    def test_moves_that_keep_all_or_none(self):
        self.assertEqual(keeping(THREE), [(0, 1, 2)])
        self.assertEqual(len(keeping(sums_board(3, [0, 1, 2], 3))), 3)
        self.assertEqual(len(keeping(sums_board(2, [0, 1, 2, 3], 4))), 2)
        self.assertEqual(hiding_trades(sums_board(2, [0, 1, 2, 3], 4)), (2, 3, 0, 1))
        self.assertEqual([hiding(count_board(2, 3)), hiding_trades(count_board(2, 3))], [None, None])
        self.assertEqual([hiding(sums_board(3, [0, 1], 2)), hiding_trades(sums_board(3, [0, 1], 2))], [(1, 0), None])

    def test_signs_moved(self):
        for board in seen_even_boards():
            signs = signs_by_bag(board)
            for move in all_moves(board):
                behind = {}
                for bag, (old, new), other in steps_of(board):
                    if move[old] == new:
                        behind.setdefault(signs[bag], set()).add(signs[other])
                for sign in set(board.signs):
                    self.assertEqual({sign_moved(board, sign, move)}, behind[sign])
                    self.assertEqual(sign_moved(board, sign, move) == sign, move == all_moves(board)[0])
                for bag in list(signs)[::5]:
                    sign = signs[bag]
                    for _ in range(board.size):
                        sign = sign_moved(board, sign, move)
                    self.assertEqual(sign, signs[led(bag, move)])

    def test_wrong_bags_signs_and_moves(self):
        move = (1, 2, 0)
        for wrong in [None, True, [], [0, 1], (0,), (0, 0, 0), (1, 0), (0, 3), (0, True), "01", {}]:
            self.refuses(InvalidBag, wrong, moved, THREE, wrong, move)
            self.refuses(InvalidBag, wrong, moved, THREE, wrong, None)
        for wrong in NO_INTEGERS + [3, -1]:
            self.refuses(InvalidSign, wrong, sign_moved, THREE, wrong, move)
            self.refuses(InvalidSign, wrong, sign_moved, THREE, wrong, None)
        for wrong in [None, True, 0, [], [1, 2, 0], (1, 2), (1, 0, 2), (1, 2, 0, 0), (0, 0, 0), (False, True, 2), "120",
                      {}, (0, 1, 3), ((0, 1, 2),)]:
            self.refuses(InvalidMove, wrong, moved, THREE, (0, 1), wrong)
            self.refuses(InvalidMove, wrong, sign_moved, THREE, 0, wrong)
        for bag in all_bags(3, 2):
            self.assertEqual(moved(THREE, bag, (0, 1, 2)), bag)


if __name__ == "__main__":
    unittest.main()
