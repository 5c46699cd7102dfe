import random
import unittest
from itertools import combinations, product

from oneforone.boards import Board, count_board
from oneforone.errors import InvalidInside, InvalidNumbers, InvalidRows
from oneforone.failures import Hidden, NotEven, NotSeen, TooSmall
from oneforone.links import joints, number
from oneforone.tables import trades_scene
from oneforone.trades import (best_numbers, fewest_trades, is_joining, is_like_sums, joining_script, like_sums,
                              telling_script, told_by_trades)
from oneforone.ways import known
from tests.cases import NO_INTEGERS, NO_LISTS, Case
from tests.sights import alike_lists, parts
from tests.walks import (LONG, all_moves, any_values, first_board, is_even, is_int, is_listed, klein_board, mutants,
                         seen_even_boards, shows_uneven, shows_unseen, signs_by_bag, small_boards, sums_board)

NO_NUMBERS = NO_LISTS + [[-1], [True], [0, False], [None], ["1"], [[1]], [(1,)], [1] * 11, (1, -1), {"a": 1}]


def possible(rows, inside, script):
    present = set(range(inside))
    for trade in script:
        if type(trade) is not tuple or len(trade) != 2 or not all(is_int(row) and 0 <= row < rows for row in trade):
            return False
        out, into = trade
        if out not in present or into in present:
            return False
        present = present - {out} | {into}
    return True


def is_right_joining(rows, inside, value):
    """By the words of the point."""
    if not is_listed(value) or len(value) != rows - 1 or not possible(rows, inside, value):
        return False
    return len(parts(range(rows), value)) == 1


def is_right_like(numbers, value):
    if type(value) is not tuple or len(value) != 2 or not all(is_listed(places) for places in value):
        return False
    for places in value:
        if not all(is_int(place) and 0 <= place < len(numbers) for place in places) or list(places) != sorted(set(places)):
            return False
    one, other = value
    if set(one) & set(other) or not one and not other:
        return False
    return sum(numbers[place] for place in one) == sum(numbers[place] for place in other)


def have_like_sums(numbers):
    sums = [sum(chosen) for size in range(len(numbers) + 1) for chosen in combinations(numbers, size)]
    return len(set(sums)) < len(sums)


def all_lists(total, most):
    """All lists of numbers in an order that does not fall, with this sum."""
    if total == 0:
        return [[]]
    return [more + [last] for last in range(1, min(total, most) + 1) for more in all_lists(total - last, last)]


def slow_most(rows, inside):
    """The most items that such a list can have."""
    most = 0
    for numbers in all_lists(inside, inside):
        if not have_like_sums(numbers) and len(numbers) <= rows - inside + (numbers[0] == 1):
            most = max(most, len(numbers))
    return most


class Joining(Case):
    def test_scripts(self):
        for rows, inside in product(range(2, 13), range(1, 7)):
            if inside < rows:
                found = joining_script(rows, inside)
                self.assertIs(type(found), list)
                self.assertTrue(is_right_joining(rows, inside, found))
                self.assertIs(is_joining(rows, inside, found), True)

    def test_judge(self):
        for rows, inside in ((2, 1), (3, 1), (3, 2), (4, 2), (5, 3)):
            right = joining_script(rows, inside)
            values = any_values() + list(mutants(right)) + [right + right[-1:], right[:-1], tuple(right), right[::-1],
                                                            [list(trade) for trade in right], right[:-1] + right[:1]]
            trades = list(product(range(rows), repeat=2))
            values += list(product(trades, repeat=rows - 1)) if rows < 4 else []
            self.judges(lambda value: is_joining(rows, inside, value),
                        lambda value: is_right_joining(rows, inside, value), values)

    def test_scripts_that_leave_a_row_out_or_are_too_long(self):
        self.assertIs(is_joining(4, 2, [(0, 2), (2, 0), (0, 2)]), False)
        self.assertIs(is_joining(4, 2, [(0, 2), (1, 3), (2, 1)]), True)
        self.assertIs(is_joining(4, 2, [(0, 2), (1, 3), (2, 0)]), False)
        self.assertIs(is_joining(4, 2, [(0, 2), (1, 3), (2, 1), (1, 2)]), False)
        self.assertIs(is_joining(4, 2, [(0, 2), (1, 3), (0, 1)]), False)
        self.assertIs(is_joining(2, 1, [(0, 1)]), True)
        self.assertIs(is_joining(12, 6, joining_script(12, 6)), True)

    def test_wrong_arguments(self):
        for wrong in NO_INTEGERS + [0, 1, 13, -1]:
            self.refuses(InvalidRows, wrong, joining_script, wrong, None)
            self.refuses(InvalidRows, wrong, is_joining, wrong, None, None)
        for wrong in NO_INTEGERS + [0, 4, 7, -1]:
            self.refuses(InvalidInside, wrong, joining_script, 4, wrong)
            self.refuses(InvalidInside, wrong, is_joining, 4, wrong, None)
        self.refuses(InvalidInside, 7, joining_script, 12, 7)
        self.refuses(InvalidInside, 7, is_joining, 12, 7, None)
        self.refuses(InvalidRows, 13, is_joining, 13, 6, None)
        self.refuses(InvalidInside, 2, joining_script, 2, 2)


class TellingAll(Case):
    def test_all_stints_are_known(self):
        told = set()
        for board in seen_even_boards():
            signs = signs_by_bag(board)
            hiding = [move for move in all_moves(board) if move != tuple(range(board.many)) and all(
                signs[tuple(sorted(move[value] for value in bag))] == sign for bag, sign in signs.items())]
            told.add(bool(hiding))
            for rows in range(max(board.size + 1, board.many), 13):
                if hiding:
                    self.fails(Hidden, {"move": hiding[0]}, told_by_trades, board, rows)
                    continue
                found = told_by_trades(board, rows)
                self.assertEqual([type(found)] + [type(each) for each in found], [tuple, list, tuple])
                script, history = found
                self.assertEqual(len(script), rows - 1)
                scene = trades_scene(board, rows, board.size, script)
                self.assertEqual(known(scene, history), list(range(rows)))
                if board.many ** rows <= 1100:
                    self.assertEqual(alike_lists(scene)[history], [history])
        self.assertEqual(told, {True, False})

    def test_hiding_trades_hide_all(self):
        for board, rows in ((sums_board(2, [0, 1], 2), 4), (first_board(), 4), (klein_board(2), 4)):
            if any(move != tuple(range(board.many)) for move in all_moves(board)):
                scene = trades_scene(board, rows, board.size, joining_script(rows, board.size))
                try:
                    told_by_trades(board, rows)
                except Hidden:
                    for others in alike_lists(scene).values():
                        self.assertTrue(all(len({each[stint] for each in others}) > 1 for stint in range(rows)))

    def test_errors_in_order(self):
        unseen, uneven = Board(2, 2, [0, 0, 0]), Board(2, 2, [0, 1, 1])
        self.fails(TooSmall, {"size": 1}, told_by_trades, Board(2, 1, [0, 0]), None)
        self.fails_with(NotEven, lambda value: shows_uneven(uneven, value), told_by_trades, uneven, None)
        self.fails_with(NotSeen, lambda value: shows_unseen(unseen, value), told_by_trades, unseen, None)
        for board in small_boards()[::9]:
            if board.size > 1 and not is_even(board):
                self.fails_with(NotEven, lambda value: shows_uneven(board, value), told_by_trades, board, None)

    def test_wrong_rows(self):
        hidden = Board(2, 2, [0, 1, 0])
        for wrong in NO_INTEGERS + [0, 1, 2, 13, -1]:
            for board in (count_board(2, 2), hidden):
                self.refuses(InvalidRows, wrong, told_by_trades, board, wrong)
        self.refuses(InvalidRows, 3, told_by_trades, count_board(4, 2), 3)
        self.refuses(InvalidRows, 6, told_by_trades, count_board(3, 6), 6)
        self.assertEqual(len(told_by_trades(count_board(4, 2), 4)[0]), 3)
        self.assertEqual(len(told_by_trades(count_board(4, 6), 7)[1]), 7)
        self.assertEqual(len(told_by_trades(Board(1, 2, [0]), 12)[1]), 12)


class LikeSums(Case):
    def test_against_all_sums(self):
        told = set()
        rolls = random.Random(124)
        given = [[], [0], [5], [0, 0], [5, 5], [1, 2, 4], [3, 1, 2], [3, 5, 6, 7], [1, 2, 4, 8, 16, 32, 64, 128, 256, 512],
                 [LONG] * 10, [LONG, LONG + 1], [LONG + 2 ** at for at in range(10)], [LONG * 2 ** at // 2 ** 10 for at in range(10)],
                 [10 ** 19 + 3 ** at for at in range(10)], [20, 40, 71, 77, 80, 82, 83]]
        given += [[rolls.randrange(most) for _ in range(rolls.randint(1, 7))] for most in (5, 30, 100, 500) for _ in range(30)]
        for numbers in given:
            found = like_sums(numbers)
            told.add(found is None)
            self.assertEqual(found is not None, have_like_sums(numbers))
            self.assertEqual(like_sums(tuple(numbers)), found)
            if found is not None:
                self.assertTrue(is_right_like(numbers, found))
                self.assertIs(is_like_sums(numbers, found), True)
                self.assertEqual([type(found), type(found[0]), type(found[1])], [tuple, list, list])
        self.assertEqual(told, {True, False})

    def test_zeros_and_equal_numbers(self):
        self.assertIn(like_sums([0]), [([0], []), ([], [0])])
        self.assertIn(like_sums([7, 7]), [([0], [1]), ([1], [0])])
        self.assertIsNone(like_sums([]))
        self.assertIsNone(like_sums((7,)))

    def test_judge(self):
        for numbers in ([3, 1, 2], [3, 0], [], [1, 2, 4], [5, 5, 0, 10]):
            right = like_sums(numbers) or ([0], [1, 2])
            values = any_values() + list(mutants(right)) + [right[::-1], list(right), tuple(tuple(each) for each in right)]
            lists = [list(chosen) for size in range(4) for chosen in product(range(-1, 4), repeat=size)][:100]
            values += list(product(lists, lists[:40]))
            self.judges(lambda value: is_like_sums(numbers, value), lambda value: is_right_like(numbers, value), values)

    def test_each_condition_broken_alone(self):
        for value, answer in ((([0], [1, 2]), True), (([1, 2], [0]), True), (((0,), (1, 2)), True), (([0], [2, 1]), False),
                              (([], []), False), (([0], [0]), False), (([0, 1], [0, 1]), False), (([0], [1]), False),
                              (([0], [1, 2, 3]), False), (([False], [1, 2]), False), (([0], [1, 2], []), False)):
            self.assertIs(is_like_sums([3, 1, 2], value), answer)

    def test_wrong_numbers(self):
        for wrong in NO_NUMBERS:
            self.refuses(InvalidNumbers, wrong, like_sums, wrong)
            self.refuses(InvalidNumbers, wrong, is_like_sums, wrong, None)


class Fewest(Case):
    def right(self, rows, inside, most):
        numbers = best_numbers(rows, inside)
        self.assertIs(type(numbers), list)
        self.assertEqual([numbers, sum(numbers)], [sorted(set(numbers)), inside])
        self.assertGreaterEqual(numbers[0], 1)
        self.assertFalse(have_like_sums(numbers))
        self.assertLessEqual(len(numbers), rows - inside + (numbers[0] == 1))
        self.assertEqual(len(numbers), most)
        self.assertEqual(fewest_trades(rows, inside), rows - most)
        script = telling_script(rows, inside)
        self.assertIs(type(script), list)
        self.assertEqual(len(script), rows - most)
        self.assertTrue(possible(rows, inside, script))
        joint_list = parts(range(rows), script)
        found = [len([row for row in joint if row < inside]) for joint in joint_list]
        self.assertFalse(have_like_sums(found))

    def test_against_a_search(self):
        for rows, inside in product(range(2, 13), range(1, 9)):
            if inside < rows:
                self.right(rows, inside, slow_most(rows, inside))

    def test_large_tables(self):
        bounds = {}
        for inside in range(1, 21):
            lists = [numbers for numbers in all_lists(inside, inside) if len(set(numbers)) == len(numbers)]
            lists = [numbers for numbers in lists if not have_like_sums(numbers)]
            bounds[inside] = [(len(numbers), numbers[0] == 1) for numbers in lists]
        for rows in range(2, 41):
            for inside in range(1, min(rows, 21)):
                most = max(many for many, one in bounds[inside] if many <= rows - inside + one)
                self.right(rows, inside, most)

    def test_no_script_with_fewer_trades_tells_all(self):
        for rows, inside in ((3, 1), (3, 2), (4, 2), (4, 3)):
            fewest = fewest_trades(rows, inside)
            board = count_board(2, inside)
            trades = list(product(range(rows), repeat=2))
            for script in product(trades, repeat=fewest - 1):
                if possible(rows, inside, script):
                    lists = alike_lists(trades_scene(board, rows, inside, script))
                    self.assertTrue(any(len(others) > 1 for others in lists.values()))
            lists = alike_lists(trades_scene(board, rows, inside, telling_script(rows, inside)))
            self.assertTrue(all(len(others) == 1 for others in lists.values()))

    def test_numbers_of_joints(self):
        for rows, inside in ((7, 3), (12, 6), (9, 5)):
            scene = trades_scene(count_board(2, inside), rows, inside, telling_script(rows, inside))
            found = [number(scene, 0, 0, joint) for joint in joints(scene)]
            self.assertEqual(sorted(found), best_numbers(rows, inside))

    def test_wrong_arguments(self):
        for function in (best_numbers, fewest_trades, telling_script):
            for wrong in NO_INTEGERS + [0, 1, 41, -1]:
                self.refuses(InvalidRows, wrong, function, wrong, 1)
                self.refuses(InvalidRows, wrong, function, wrong, None)
            for wrong in NO_INTEGERS + [0, 21, -1]:
                self.refuses(InvalidInside, wrong, function, 40, wrong)
            self.refuses(InvalidInside, 5, function, 5, 5)
            self.refuses(InvalidInside, 2, function, 2, 2)


if __name__ == "__main__":
    unittest.main()
