import unittest

from oneforone.boards import Board, count_board
from oneforone.errors import InvalidBag, InvalidChange
from oneforone.matches import match_of, matches_with
from tests.cases import NO_BAGS_OF_TWO, NO_CHANGES, Case
from tests.walks import all_changes, all_matches, is_seen, match, small_boards


class Matches(Case):
    def test_all_matches(self):
        for board in small_boards():
            matches = all_matches(board)
            for (one, other), changes in matches.items():
                self.assertEqual(match_of(board, one, other), changes)
                if len(matches) < 20:
                    self.assertEqual(match(board, one, other), changes)
            for change in all_changes(board):
                pairs = sorted(pair for pair, changes in matches.items() if change in changes)
                self.assertEqual(matches_with(board, change), pairs)

    def test_kinds_of_results(self):
        board = Board(2, 2, [0, 1, 1])
        self.assertEqual(match_of(board, (1,), (1,)), [(0, 0), (0, 1), (1, 0), (1, 1)])
        self.assertEqual(match_of(count_board(2, 2), (0,), (1,)), [(1, 0)])
        self.assertEqual(match_of(count_board(2, 3), (0, 0), (1, 1)), [])
        self.assertEqual(matches_with(count_board(2, 2), (0, 1)), [((1,), (0,))])
        self.assertEqual(matches_with(Board(2, 1, [0, 1]), (0, 1)), [])

    def test_size_one(self):
        board = Board(3, 1, [5, 7, 5])
        self.assertEqual(match_of(board, (), ()), [(0, 0), (0, 2), (1, 1), (2, 0), (2, 2)])
        self.assertEqual(matches_with(board, (0, 2)), [((), ())])

    def test_each_bag_matches_itself(self):
        for board in small_boards():
            for value in range(board.many):
                pairs = matches_with(board, (value, value))
                self.assertTrue(all((one, one) in pairs for one, _ in pairs))
                self.assertTrue(pairs)
            if is_seen(board):
                self.assertTrue(all(one != other for a in range(board.many) for c in range(a)
                                    for one, other in matches_with(board, (a, c))))

    def test_wrong_bags(self):
        board = Board(2, 3, [0, 1, 2, 0])
        for wrong in NO_BAGS_OF_TWO + [(0, 2), (0, 0, 0)]:
            self.refuses(InvalidBag, wrong, match_of, board, wrong, (0, 0))
            self.refuses(InvalidBag, wrong, match_of, board, wrong, [0, 0])
            self.refuses(InvalidBag, wrong, match_of, board, (0, 1), wrong)
        for wrong in [(0,), [], None, 0]:
            self.refuses(InvalidBag, wrong, match_of, Board(2, 1, [0, 1]), wrong, ())

    def test_wrong_changes(self):
        for wrong in NO_CHANGES + [(0, 2), (2, 0)]:
            self.refuses(InvalidChange, wrong, matches_with, Board(2, 3, [0, 1, 2, 0]), wrong)


if __name__ == "__main__":
    unittest.main()
