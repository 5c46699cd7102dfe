import unittest
from itertools import combinations, product

from oneforone.boards import Board, count_board
from oneforone.breakers import (is_open_table, is_uneven_table, is_unsharp_table, open_table, uneven_table,
                                unsharp_table)
from oneforone.errors import InvalidSet
from oneforone.failures import EvenBoard, NotEven, NotSeen, Rigid, SharpBoard, TooSmall
from oneforone.numbers import loosener
from oneforone.tables import renew_scene
from tests.cases import Case
from tests.test_numbers import NO_SETS, SUMS
from tests.walks import (any_values, is_even, is_int, is_listed, is_seen, is_sharp, klein_board, mutants, random_boards,
                         seen_even_boards, shows_uneven, shows_unseen, signs_by_bag, small_boards, sums_board)

ODD = Board(2, 2, [0, 1, 0])
MOST = Board(2, 2, [0, 1, 1])
UNSEEN = Board(2, 2, [0, 0, 0])


def is_history(board, many, value):
    return (is_listed(value) and len(value) == many
            and all(is_int(each) and 0 <= each < board.many for each in value))


def shown(board, script, history):
    """The signs of a table of as many rows as the board's size, by the values of its rows."""
    signs = signs_by_bag(board)
    rows = list(history[:board.size])
    found = [signs[tuple(sorted(rows))]]
    for row, value in zip(script, history[board.size:]):
        rows[row] = value
        found.append(signs[tuple(sorted(rows))])
    return found


def of_row_0(board, script, history):
    return [history[0]] + [value for row, value in zip(script, history[board.size:]) if row == 0]


def is_right_open(board, values, value):
    """By the words of the point."""
    if type(value) is not tuple or len(value) != 3:
        return False
    script, one, other = value
    if not is_listed(script) or len(script) > 12 - board.size:
        return False
    if not all(is_int(row) and 0 <= row < board.size for row in script):
        return False
    many = board.size + len(script)
    if not is_history(board, many, one) or not is_history(board, many, other):
        return False
    if shown(board, script, one) != shown(board, script, other) or of_row_0(board, script, one) != list(values):
        return False
    return all(a != c for a, c in zip(of_row_0(board, script, one), of_row_0(board, script, other)))


def row_changes(one, other):
    return (one[0], other[0]), (one[-1], other[-1])


def is_right_uneven(board, value):
    if type(value) is not tuple or len(value) != 4:
        return False
    if not all(is_history(board, board.size + 1, history) for history in value):
        return False
    one, other, third, fourth = [shown(board, [0], history) for history in value]
    if row_changes(*value[:2]) != row_changes(*value[2:]):
        return False
    return one == other and third[0] == fourth[0] and third[1] != fourth[1]


def is_right_unsharp(board, value):
    if type(value) is not tuple or len(value) != 2:
        return False
    if not all(is_history(board, board.size + 1, history) for history in value):
        return False
    first, second = row_changes(*value)
    return (shown(board, [0], value[0]) == shown(board, [0], value[1]) and first != second
            and not (first[0] == first[1] and second[0] == second[1]))


def histories(board):
    return list(product(range(board.many), repeat=board.size + 1))


def sets(board):
    return [list(each) for size in range(1, board.many + 1) for each in combinations(range(board.many), size)]


class Open(Case):
    def test_by_the_words(self):
        lengths = set()
        for board in seen_even_boards():
            for values in sets(board):
                if loosener(board, values) is None:
                    self.fails(Rigid, {"chosen": values}, open_table, board, values)
                    continue
                found = open_table(board, values)
                self.assertTrue(is_right_open(board, values, found))
                self.assertIs(is_open_table(board, values, found), True)
                self.assertEqual([type(each) for each in found], [list, tuple, tuple])
                lengths.add(len(values))
        self.assertEqual(lengths, {1, 2, 3, 4})

    def test_rigid_sets_have_none(self):
        for board in (SUMS, count_board(2, 2), sums_board(2, [0, 1, 3]), sums_board(3, [0, 1])):
            for values in sets(board):
                scripts = [[0] * (len(values) - 1)]
                if board.size == 2 and len(values) == 2:
                    scripts += [[1, 0], [0, 1], [1, 0, 1]]
                tables = [(script, one, other) for script in scripts
                          for one in product(range(board.many), repeat=board.size + len(script))
                          if of_row_0(board, script, one) == values
                          for other in product(range(board.many), repeat=board.size + len(script))
                          if is_right_open(board, values, (script, one, other))]
                self.assertEqual(bool(tables), loosener(board, values) is not None)
                self.assertTrue(all(is_open_table(board, values, table) for table in tables))

    def test_the_very_set_is_kept(self):
        for values in ([0, 1], (0, 1)):
            with self.assertRaises(Rigid) as caught:
                open_table(count_board(2, 2), values)
            self.assertIs(caught.exception.chosen, values)

    def test_judge(self):
        for board, values in ((SUMS, [0, 1]), (SUMS, [1]), (ODD, [0, 1]), (ODD, (0,)), (klein_board(2), [0, 1, 3]),
                              (count_board(2, 2), [1])):
            right = ([0] * (len(values) - 1), (0,) * (board.size + len(values) - 1), (1,) * (board.size + len(values) - 1))
            listed = any_values()
            if loosener(board, values) is not None:
                right = open_table(board, values)
                wide = (right[0] + [1], right[1] + right[1][1:2], right[2] + right[2][1:2])
                listed += [wide, tuple(tuple(each) for each in wide), (right[0], right[2], right[1]), (right[0] + [1],) + right[1:],
                           (wide[0], wide[1][:-1] + (1 - wide[1][-1] % 2,), wide[2]), (right[0], right[1], right[1])]
                listed += [(right[0], one, other) for one in (list(right[1]), right[1]) for other in (list(right[2]), right[1])]
                self.assertIs(is_open_table(board, values, wide), True)
            listed += [right] + list(mutants(right))
            self.judges(lambda value: is_open_table(board, values, value),
                        lambda value: is_right_open(board, values, value), listed)

    def test_long_scripts(self):
        board = ODD
        script = [1] * 9 + [0]
        one, other = (0, 1) + (1,) * 9 + (1,), (1, 0) + (0,) * 9 + (0,)
        self.assertIs(is_open_table(board, [0, 1], (script, one, other)), True)
        self.assertIs(is_open_table(board, [0, 1], ([1] + script, (0, 1, 1) + one[2:], (1, 0, 0) + other[2:])), False)
        self.assertIs(is_open_table(board, [1, 0][::-1], (script, [0, 1] + [1] * 10, list(other))), True)

    def test_errors_in_order(self):
        for function, more in ((open_table, ()), (is_open_table, (None,))):
            self.fails(TooSmall, {"size": 1}, function, Board(2, 1, [0, 0]), None, *more)
            self.fails_with(NotEven, lambda value: shows_uneven(MOST, value), function, MOST, None, *more)
            self.fails_with(NotSeen, lambda value: shows_unseen(UNSEEN, value), function, UNSEEN, None, *more)
            for board in random_boards(113, 3, 2, 20):
                if not is_even(board):
                    self.fails_with(NotEven, lambda value: shows_uneven(board, value), function, board, None, *more)
            for wrong in NO_SETS:
                self.refuses(InvalidSet, wrong, function, SUMS, wrong, *more)


class Uneven(Case):
    def test_by_the_words(self):
        told = set()
        for board in small_boards():
            told.add((is_even(board), board.size == 1))
            if is_even(board):
                self.fails(EvenBoard, {}, uneven_table, board)
                continue
            found = uneven_table(board)
            self.assertTrue(is_right_uneven(board, found))
            self.assertIs(is_uneven_table(board, found), True)
            self.assertTrue(type(found) is tuple and all(type(history) is tuple for history in found))
        self.assertEqual(told, {(True, True), (True, False), (False, False)})

    def test_against_all_histories(self):
        for board in (Board(2, 1, [0, 0]), Board(2, 1, [0, 1]), count_board(2, 2), ODD, MOST, sums_board(2, [0, 1, 1]),
                      Board(3, 1, [0, 1, 0])):
            tables = 0
            for one, other in product(histories(board), repeat=2):
                alike = shown(board, [0], one) == shown(board, [0], other)
                for third in histories(board) if alike else ():
                    for middle in product(range(board.many), repeat=board.size - 1):
                        if third[0] == one[0] and third[-1] == one[-1]:
                            value = (one, other, third, (other[0],) + middle + (other[-1],))
                            tables += is_right_uneven(board, value)
                            self.assertIs(is_uneven_table(board, value), is_right_uneven(board, value))
            self.assertEqual(tables > 0, not is_even(board))

    def test_judge(self):
        for board in (MOST, ODD, Board(2, 1, [0, 0]), Board(2, 3, [0, 1, 1, 0]), Board(3, 2, [0, 1, 1, 1, 2, 0])):
            right = ([0] * (board.size + 1),) * 4 if is_even(board) else uneven_table(board)
            values = any_values() + list(mutants(right)) + [right, right[::-1], right[1::-1] + right[:1:-1], list(right),
                                                            tuple(list(each) for each in right), right[2:] + right[:2],
                                                            (right[0], right[1]) * 2, (right[2], right[3]) * 2]
            values += [right[:3] + (history,) for history in histories(board)] + [(history,) * 4 for history in histories(board)]
            values += [(history,) + right[1:] for history in histories(board)]
            self.judges(lambda value: is_uneven_table(board, value), lambda value: is_right_uneven(board, value), values)

    def test_examples_by_hand(self):
        self.assertIs(is_uneven_table(MOST, ([0, 1, 0], [0, 1, 1], [0, 0, 0], [0, 0, 1])), True)
        self.assertIs(is_uneven_table(MOST, ([0, 1, 0], [0, 1, 1], [0, 0, 0], [0, 1, 1])), False)


class Unsharp(Case):
    def test_by_the_words(self):
        told = set()
        for board in small_boards():
            told.add((is_sharp(board), board.size == 1))
            if is_sharp(board):
                self.fails(SharpBoard, {}, unsharp_table, board)
                continue
            found = unsharp_table(board)
            self.assertTrue(is_right_unsharp(board, found))
            self.assertIs(is_unsharp_table(board, found), True)
            self.assertTrue(type(found) is tuple and all(type(history) is tuple for history in found))
        self.assertEqual(told, set(product((True, False), repeat=2)))

    def test_against_all_histories(self):
        for board in (Board(2, 1, [0, 0]), Board(2, 1, [0, 1]), count_board(2, 2), ODD, MOST, sums_board(2, [0, 1, 3]),
                      sums_board(2, [0, 1, 2]), Board(3, 1, [0, 1, 0]), Board(2, 3, [0, 1, 2, 0])):
            tables = 0
            for value in product(histories(board), repeat=2):
                tables += is_right_unsharp(board, value)
                self.assertIs(is_unsharp_table(board, value), is_right_unsharp(board, value))
            self.assertEqual(tables > 0, not is_sharp(board))

    def test_judge(self):
        for board in (ODD, MOST, count_board(2, 2), Board(2, 1, [0, 0])):
            right = ((0,) * (board.size + 1),) * 2 if is_sharp(board) else unsharp_table(board)
            values = any_values() + list(mutants(right)) + [right, right[::-1], list(right), tuple(list(each) for each in right)]
            values += list(product(histories(board), repeat=2))
            self.judges(lambda value: is_unsharp_table(board, value), lambda value: is_right_unsharp(board, value), values)


class ShortScene(Case):
    def test_row_0_has_two_stints(self):
        scene = renew_scene(ODD, 2, [0])
        self.assertEqual([scene.stints, scene.readers[0][1]], [3, ((0, 1), (1, 2))])


if __name__ == "__main__":
    unittest.main()
