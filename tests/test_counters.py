import unittest

from oneforone.boards import Board, count_board
from oneforone.counters import composed, inverse, is_counter, kind_between, kind_of, next_sign, same_kind
from oneforone.errors import InvalidChange, InvalidKind, InvalidSign
from oneforone.failures import NoStep, NotEven, TooSmall
from tests.cases import NO_CHANGES, NO_INTEGERS, Case
from tests.walks import (all_changes, any_values, block_list, even_boards, every_board, is_change, is_even, is_listed,
                         mutants, shows_uneven, signs_by_bag, small_boards, steps_of)

TURNS = Board(2, 3, [0, 1, 2, 0])
SMALL = Board(2, 1, [0, 1])
UNEVEN = Board(2, 2, [0, 1, 1])


def is_right_counter(board, value):
    """By the words: two steps from like bags lead to like bags exactly if their changes are in one list."""
    if not is_listed(value) or not all(is_listed(part) and len(part) for part in value):
        return False
    items = [change for part in value for change in part]
    if not all(is_change(board, change) for change in items) or sorted(items) != all_changes(board):
        return False
    place = {change: at for at, part in enumerate(value) for change in part}
    signs = signs_by_bag(board)
    steps = {(signs[bag], change, signs[behind]) for bag, change, behind in steps_of(board)}
    return all((behind == other_behind) == (place[change] == place[other])
               for sign, change, behind in steps for other_sign, other, other_behind in steps if sign == other_sign)


class Ahead(Case):
    def calls(self, board, wrong):
        """Each function with this board, and with right or wrong arguments behind it."""
        change, index = (wrong, wrong) if wrong is not None else ((0, 0), 0)
        yield kind_of, (board, change)
        yield same_kind, (board, change, change)
        yield next_sign, (board, index, index)
        yield kind_between, (board, index, index)
        yield inverse, (board, index)
        yield composed, (board, index, index)

    def test_too_small_ahead_of_not_even_ahead_of_wrong_arguments(self):
        for wrong in (None, "x", [], True):
            for function, given in self.calls(SMALL, wrong):
                self.fails(TooSmall, {"size": 1}, function, *given)
            for function, given in self.calls(Board(1, 1, [5]), wrong):
                self.fails(TooSmall, {"size": 1}, function, *given)
            for function, given in self.calls(UNEVEN, wrong):
                self.fails_with(NotEven, lambda value: shows_uneven(UNEVEN, value), function, *given)

    def test_judge_raises_too_small_only(self):
        for value in (None, [], [[(0, 0), (1, 1)], [(0, 1)], [(1, 0)]]):
            self.fails(TooSmall, {"size": 1}, is_counter, SMALL, value)
            self.assertIs(is_counter(UNEVEN, value), False)


class Kinds(Case):
    def test_kinds_by_index(self):
        for board in even_boards():
            kinds = block_list(board)
            place = {change: at for at, part in enumerate(kinds) for change in part}
            self.assertEqual([kind_of(board, change) for change in all_changes(board)],
                             [place[change] for change in all_changes(board)])
            for one in all_changes(board):
                for other in all_changes(board)[::2]:
                    self.assertIs(same_kind(board, one, other), place[one] == place[other])

    def test_change_of_here_and_there(self):
        for board in even_boards():
            for a, b, c, d in [(0, 0, 0, 0)] + [(a, b, c, 0) for a in range(board.many) for b in range(board.many)
                                                for c in range(board.many)]:
                self.assertEqual(same_kind(board, (a, c), (b, d)), same_kind(board, (a, b), (c, d)))

    def test_wrong_changes(self):
        for wrong in NO_CHANGES + [(0, 2), (2, 0)]:
            self.refuses(InvalidChange, wrong, kind_of, TURNS, wrong)
            self.refuses(InvalidChange, wrong, same_kind, TURNS, wrong, (0, 1))
            self.refuses(InvalidChange, wrong, same_kind, TURNS, wrong, None)
            self.refuses(InvalidChange, wrong, same_kind, TURNS, (0, 1), wrong)


class Steps(Case):
    def by_walk(self, board):
        """For each sign and change of a step the sign behind it, and the changes from sign to sign."""
        signs = signs_by_bag(board)
        behind, between = {}, {}
        for bag, change, other in steps_of(board):
            behind.setdefault((signs[bag], change), set()).add(signs[other])
            between.setdefault((signs[bag], signs[other]), set()).add(change)
        return behind, between

    def test_next_sign(self):
        for board in even_boards():
            behind, _ = self.by_walk(board)
            for sign in set(board.signs):
                for index, part in enumerate(block_list(board)):
                    reached = set().union(*[behind.get((sign, change), set()) for change in part])
                    self.assertLessEqual(len(reached), 1)
                    if reached:
                        self.assertEqual([next_sign(board, sign, index)], list(reached))
                    else:
                        self.fails(NoStep, {"ahead": sign, "kind": index}, next_sign, board, sign, index)

    def test_kind_between(self):
        for board in even_boards():
            _, between = self.by_walk(board)
            place = {change: at for at, part in enumerate(block_list(board)) for change in part}
            for sign in set(board.signs):
                for other in set(board.signs):
                    indices = {place[change] for change in between.get((sign, other), ())}
                    self.assertLessEqual(len(indices), 1)
                    self.assertEqual(kind_between(board, sign, other), indices.pop() if indices else None)

    def test_signs_of_any_size(self):
        board = Board(2, 2, [-7, 10 ** 19, 3])
        self.assertEqual([next_sign(board, -7, 1), next_sign(board, 3, 2)], [10 ** 19, 10 ** 19])
        self.assertEqual([kind_between(board, 10 ** 19, -7), kind_between(board, -7, 3)], [2, None])

    def test_wrong_signs_and_kinds(self):
        for wrong in NO_INTEGERS + [3, -1, 10 ** 19]:
            self.refuses(InvalidSign, wrong, next_sign, TURNS, wrong, 0)
            self.refuses(InvalidSign, wrong, next_sign, TURNS, wrong, 9)
            self.refuses(InvalidKind, wrong, next_sign, TURNS, 0, wrong)
            self.refuses(InvalidSign, wrong, kind_between, TURNS, wrong, 0)
            self.refuses(InvalidSign, wrong, kind_between, TURNS, wrong, None)
            self.refuses(InvalidSign, wrong, kind_between, TURNS, 0, wrong)
            self.refuses(InvalidKind, wrong, inverse, TURNS, wrong)
            self.refuses(InvalidKind, wrong, composed, TURNS, wrong, 0)
            self.refuses(InvalidKind, wrong, composed, TURNS, wrong, None)
            self.refuses(InvalidKind, wrong, composed, TURNS, 0, wrong)

    def test_ahead_and_kind_of_no_step(self):
        self.fails(NoStep, {"ahead": 2, "kind": 1}, next_sign, count_board(2, 2), 2, 1)
        self.fails(NoStep, {"ahead": 0, "kind": 2}, next_sign, count_board(2, 2), 0, 2)


class Composed(Case):
    def test_inverse_and_composed(self):
        for board in even_boards():
            kinds = block_list(board)
            place = {change: at for at, part in enumerate(kinds) for change in part}
            for index, part in enumerate(kinds):
                self.assertEqual({place[there, here] for here, there in part}, {inverse(board, index)})
                for other, behind in enumerate(kinds):
                    found = {place[a, e] for a, c in part for d, e in behind if c == d}
                    self.assertLessEqual(len(found), 1)
                    self.assertEqual(composed(board, index, other), found.pop() if found else None)

    def test_order_of_the_two_kinds(self):
        board = count_board(3, 2)
        one, other = kind_of(board, (0, 1)), kind_of(board, (1, 2))
        self.assertEqual(composed(board, one, other), kind_of(board, (0, 2)))
        self.assertIsNone(composed(board, other, one))


class Counters(Case):
    def test_kinds_in_any_order(self):
        for board in even_boards():
            kinds = block_list(board)
            turned = [part[::-1] for part in kinds[::-1]]
            for value in (kinds, turned, tuple(tuple(part) for part in turned), tuple(kinds), kinds[1:] + kinds[:1]):
                self.assertIs(is_counter(board, value), True)

    def test_a_board_has_a_counter_exactly_if_it_is_even(self):
        for board in small_boards():
            if board.size > 1:
                self.assertIs(is_counter(board, block_list(board)), is_even(board))

    def test_by_the_words(self):
        for board in every_board(2, 2) + every_board(2, 3) + [Board(1, 2, [3]), Board(3, 2, [0, 1, 2, 2, 0, 1])]:
            kinds = block_list(board)
            values = any_values() + list(mutants(kinds)) + [[[change] for change in all_changes(board)]]
            values += [[all_changes(board)], kinds + [[]], [[]] + kinds, kinds + [kinds[0]], kinds[:-1], [], [[]]]
            values += [[part + [(0, 0)] for part in kinds], [[list(change) for change in part] for part in kinds]]
            for change in all_changes(board):
                left = [[each for each in part if each != change] for part in kinds]
                values += [left, [part for part in left if part]]
                for at in range(len(left)):
                    values.append([part + [change] if at == place else part for place, part in enumerate(left)])
            self.judges(lambda value: is_counter(board, value), lambda value: is_right_counter(board, value), values)


if __name__ == "__main__":
    unittest.main()
