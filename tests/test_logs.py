import random
import unittest

from oneforone.boards import Board, count_board
from oneforone.counters import kind_of
from oneforone.errors import InvalidBag, InvalidKinds, InvalidLog, InvalidSign, InvalidSteps
from oneforone.failures import NoKind, NoStep, NotEven, NotThere, TooSmall
from oneforone.logs import log_kinds, log_signs, walk
from tests.cases import NO_INTEGERS, NO_LISTS, Case
from tests.walks import all_bags, block_list, even_boards, shows_uneven, signs_by_bag, steps_of

TURNS = Board(2, 3, [0, 1, 2, 0])
SMALL = Board(2, 1, [0, 1])
UNEVEN = Board(2, 2, [0, 1, 1])


def random_walk(rolls, board, many):
    """A bag, so many steps from it, and the bags on the way."""
    start = bag = rolls.choice(all_bags(board.many, board.size))
    steps, way = [], [bag]
    for _ in range(many):
        items = list(bag)
        old, new = items.pop(rolls.randrange(len(items))), rolls.randrange(board.many)
        bag = tuple(sorted(items + [new]))
        steps.append((old, new))
        way.append(bag)
    return start, steps, way


class Ahead(Case):
    def test_too_small_and_not_even(self):
        for given in ((walk, (0, 0), []), (walk, None, None), (log_kinds, [0]), (log_kinds, None), (log_signs, 0, []),
                      (log_signs, "x", "x")):
            function, arguments = given[0], given[1:]
            self.fails(TooSmall, {"size": 1}, function, SMALL, *arguments)
            self.fails_with(NotEven, lambda value: shows_uneven(UNEVEN, value), function, UNEVEN, *arguments)


class Walks(Case):
    def test_walks(self):
        rolls = random.Random(44)
        for board in even_boards():
            signs = signs_by_bag(board)
            for many in (0, 1, 2, 7, 60):
                start, steps, way = random_walk(rolls, board, many)
                expected = tuple(signs[bag] for bag in way)
                for given in (steps, tuple(steps)):
                    found = walk(board, start, given)
                    self.assertIs(type(found), tuple)
                    self.assertEqual(found, expected)
                kinds = log_kinds(board, expected)
                self.assertEqual(kinds, tuple(kind_of(board, step) for step in steps))
                self.assertEqual(log_signs(board, expected[0], kinds), expected)

    def test_old_values_that_are_not_there(self):
        self.fails(NotThere, {"at": 0}, walk, TURNS, (0, 0, 0), [(1, 0)])
        self.fails(NotThere, {"at": 0}, walk, TURNS, (0, 0, 0), [(1, 1), (1, 0)])
        self.fails(NotThere, {"at": 1}, walk, TURNS, (0, 0, 0), [(0, 0), (1, 0), (1, 0)])
        self.fails(NotThere, {"at": 3}, walk, TURNS, (0, 0, 0), [(0, 1), (0, 1), (0, 1), (0, 0)])
        self.fails(NotThere, {"at": 59}, walk, TURNS, (0, 0, 0), [(0, 0)] * 59 + [(1, 1)])

    def test_wrong_bags(self):
        for wrong in [None, True, [], [0, 0, 0], (0, 0), (0, 0, 0, 0), (1, 0, 0), (0, 0, 2), (0, 0, True), "000", {}]:
            self.refuses(InvalidBag, wrong, walk, TURNS, wrong, [])
            self.refuses(InvalidBag, wrong, walk, TURNS, wrong, None)

    def test_wrong_steps(self):
        for wrong in NO_LISTS + [[(0, 2)], [(0, 1), [0, 1]], [(0,)], [(0, 1, 1)], [0], [None], [(0, True)], [(-1, 0)],
                                 [(1, 0), (0, 2)], [(0, 0)] * 61, ((0, 0),) * 61, [()], (0, 1)]:
            self.refuses(InvalidSteps, wrong, walk, TURNS, (0, 0, 0), wrong)
        self.assertEqual(walk(TURNS, (0, 0, 0), [(0, 0)] * 60), (0,) * 61)


class Logs(Case):
    def between(self, board):
        signs = signs_by_bag(board)
        place = {change: at for at, part in enumerate(block_list(board)) for change in part}
        return {(signs[bag], signs[behind]): place[change] for bag, change, behind in steps_of(board)}

    def test_all_logs_of_three_signs(self):
        for board in even_boards():
            kinds = self.between(board)
            signs = sorted(set(board.signs))[:7]
            for one in signs:
                self.assertEqual(log_kinds(board, [one]), ())
                for other in signs:
                    for third in signs:
                        log = [one, other, third]
                        if (one, other) not in kinds:
                            self.fails(NoKind, {"at": 0}, log_kinds, board, log)
                        elif (other, third) not in kinds:
                            self.fails(NoKind, {"at": 1}, log_kinds, board, log)
                        else:
                            found = log_kinds(board, tuple(log))
                            self.assertIs(type(found), tuple)
                            self.assertEqual(found, (kinds[one, other], kinds[other, third]))
                            self.assertEqual(log_signs(board, one, list(found)), tuple(log))

    def test_all_kinds_behind_one_another(self):
        for board in even_boards():
            behind = {(sign, kind): other for (sign, other), kind in self.between(board).items()}
            indices = range(len(block_list(board)))
            for sign in sorted(set(board.signs))[:5]:
                self.assertEqual(log_signs(board, sign, []), (sign,))
                for one in indices:
                    for other in indices:
                        if (sign, one) not in behind:
                            self.fails(NoStep, {"ahead": sign, "kind": one}, log_signs, board, sign, [one, other])
                            continue
                        middle = behind[sign, one]
                        if (middle, other) not in behind:
                            self.fails(NoStep, {"ahead": middle, "kind": other}, log_signs, board, sign, [one, other])
                            continue
                        found = log_signs(board, sign, (one, other))
                        self.assertIs(type(found), tuple)
                        self.assertEqual(found, (sign, middle, behind[middle, other]))
                        self.assertEqual(log_kinds(board, found), (one, other))

    def test_lengths(self):
        self.assertEqual(log_kinds(TURNS, [0, 1] * 30 + [0]), (1, 2) * 30)
        self.assertEqual(log_signs(TURNS, 0, [1, 2] * 30), (0, 1) * 30 + (0,))
        self.assertEqual(log_kinds(TURNS, [2]), ())
        for wrong in ([], (), [0] * 62, (0,) * 62):
            self.refuses(InvalidLog, wrong, log_kinds, TURNS, wrong)
        for wrong in ([0] * 61, (0,) * 61):
            self.refuses(InvalidKinds, wrong, log_signs, TURNS, 0, wrong)

    def test_first_place(self):
        self.fails(NoKind, {"at": 3}, log_kinds, count_board(2, 2), [0, 1, 1, 0, 2, 0])
        self.fails(NoStep, {"ahead": 2, "kind": 1}, log_signs, count_board(2, 2), 0, [1, 1, 1, 1])

    def test_wrong_logs(self):
        for wrong in NO_LISTS + [[0, 3], [3], [-1], [0, True], [False], [0, None], [0, "1"], [[0]], [(0,)]]:
            self.refuses(InvalidLog, wrong, log_kinds, TURNS, wrong)
        for wrong in NO_INTEGERS + [3, -1]:
            self.refuses(InvalidSign, wrong, log_signs, TURNS, wrong, [])
            self.refuses(InvalidSign, wrong, log_signs, TURNS, wrong, None)
        for wrong in NO_LISTS + [[0, 3], [-1], [True], [0, None], ["1"], [[0]], [(0, 1)]]:
            self.refuses(InvalidKinds, wrong, log_signs, TURNS, 0, wrong)


if __name__ == "__main__":
    unittest.main()
