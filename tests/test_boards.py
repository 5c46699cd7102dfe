import unittest

from oneforone.boards import (Board, both, count_board, is_parting_bags, like_bags, parting_bags, read_board, renamed,
                              tells_no_less)
from oneforone.dials import Dials
from oneforone.errors import (InvalidBag, InvalidLine, InvalidOther, InvalidSigns, InvalidSize, InvalidValues)
from tests.cases import NO_BAGS_OF_TWO, NO_INTEGERS, NO_LISTS, Case
from tests.walks import (LONG, all_bags, any_values, every_board, is_bag, mutants, random_boards, signs_by_bag,
                         small_boards)


class Boards(Case):
    def test_all_values_and_sizes(self):
        for values in range(1, 5):
            for size in range(1, 7):
                many = len(all_bags(values, size))
                signs = [(-1) ** at * at * 7 for at in range(many)]
                for given in (signs, tuple(signs)):
                    board = Board(values, size, given)
                    self.assertEqual((board.many, board.size, board.signs), (values, size, tuple(signs)))
                    self.assertIs(type(board.signs), tuple)
                    self.assertEqual(len(board), many)
                for bag, sign in zip(all_bags(values, size), signs):
                    self.assertEqual([board.sign(bag), board(bag)], [sign, sign])
                for wrong in ([], signs[1:], signs + [0]):
                    self.refuses(InvalidSigns, wrong, Board, values, size, wrong)

    def test_signs_of_many_digits(self):
        board = Board(2, 1, [-LONG, LONG])
        self.assertEqual([board.sign((0,)), board((1,))], [-LONG, LONG])
        self.assertEqual(read_board(board.line()), board)

    def test_equality(self):
        board = Board(2, 2, [0, 1, 2])
        self.assertEqual(board, Board(2, 2, (0, 1, 2)))
        for other in (Board(2, 2, [0, 1, 3]), Board(3, 1, [0, 1, 2]), Board(1, 2, [0]), None, (2, 2, (0, 1, 2)), 0,
                      Dials([], [[]]), [], "2 2 / 0 1 2"):
            self.assertFalse(board == other)
            self.assertFalse(other == board)
            self.assertTrue(board != other)
        self.assertFalse(Board(1, 2, [0]) == Board(1, 3, [0]))

    def test_the_list_of_signs_is_not_kept(self):
        signs = [0, 1, 2]
        board = Board(2, 2, signs)
        signs[0] = 9
        self.assertEqual([board.signs, board((0, 0))], [(0, 1, 2), 0])

    def test_wrong_boards(self):
        for wrong in NO_INTEGERS + [0, 5, -1]:
            self.refuses(InvalidValues, wrong, Board, wrong, 0, [])
            self.refuses(InvalidValues, wrong, count_board, wrong, 7)
        for wrong in NO_INTEGERS + [0, 7, -1]:
            self.refuses(InvalidSize, wrong, Board, 2, wrong, [])
            self.refuses(InvalidSize, wrong, count_board, 2, wrong)
        for wrong in NO_LISTS + ["012", [0, 1, True], [0, None, 1], [0, "1", 2], (0, 1, (2,)), [0, 1, [2]]]:
            self.refuses(InvalidSigns, wrong, Board, 2, 2, wrong)

    def test_wrong_bags(self):
        board = Board(2, 2, [0, 1, 2])
        for wrong in NO_BAGS_OF_TWO + [(0, 2)]:
            self.refuses(InvalidBag, wrong, board.sign, wrong)
            self.refuses(InvalidBag, wrong, board, wrong)

    def test_like_bags_and_renamed(self):
        for board in small_boards():
            signs = signs_by_bag(board)
            lists = like_bags(board)
            self.assertEqual(sorted(bag for like in lists for bag in like), all_bags(board.many, board.size))
            self.assertEqual(lists, sorted(sorted(like) for like in lists))
            place = {bag: at for at, like in enumerate(lists) for bag in like}
            for one in signs:
                for other in signs:
                    self.assertEqual(place[one] == place[other], signs[one] == signs[other])
            self.assertEqual(renamed(board), Board(board.many, board.size, [place[bag] for bag in signs]))

    def test_renamed_numbers_signs_as_they_come(self):
        self.assertEqual(renamed(Board(2, 5, [9, -3, 9, 7, 0, -3])).signs, (0, 1, 0, 2, 3, 1))

    def test_count_boards(self):
        for values in range(1, 5):
            for size in range(1, 7):
                board = count_board(values, size)
                self.assertEqual((board.many, board.size), (values, size))
                self.assertEqual(board.signs, tuple(range(len(all_bags(values, size)))))


def tells(one, other):
    mine, theirs = signs_by_bag(one), signs_by_bag(other)
    return all(theirs[a] == theirs[b] for a in mine for b in mine if mine[a] == mine[b])


def parts(one, other, value):
    if type(value) is not tuple or len(value) != 2 or not all(is_bag(one, bag, one.size) for bag in value):
        return False
    lesser, greater = value
    mine, theirs = signs_by_bag(one), signs_by_bag(other)
    return lesser < greater and mine[lesser] == mine[greater] and theirs[lesser] != theirs[greater]


class TwoBoards(Case):
    def pairs(self):
        for values, size in ((2, 1), (2, 2), (2, 3), (3, 1)):
            boards = every_board(values, size)
            yield from ((one, other) for one in boards for other in boards)
        for values, size in ((3, 3), (4, 2), (2, 6), (1, 4)):
            boards = random_boards(size, values, size, 9)
            yield from ((one, other) for one in boards for other in boards)

    def test_telling_no_less(self):
        for one, other in self.pairs():
            self.assertIs(tells_no_less(one, other), tells(one, other))
            witness = parting_bags(one, other)
            if tells(one, other):
                self.assertIsNone(witness)
            else:
                self.assertTrue(parts(one, other, witness))
                self.assertIs(is_parting_bags(one, other, witness), True)

    def test_both(self):
        for one, other in self.pairs():
            board = both(one, other)
            self.assertEqual(board, renamed(board))
            mine, theirs, signs = signs_by_bag(one), signs_by_bag(other), signs_by_bag(board)
            for a in signs:
                for b in signs:
                    self.assertEqual(signs[a] == signs[b], mine[a] == mine[b] and theirs[a] == theirs[b])

    def test_judge(self):
        for one, other in ((Board(2, 3, [4, 1, 1, 4]), Board(2, 3, [0, 1, 1, 2])), (count_board(2, 1),) * 2,
                           (Board(3, 2, [0] * 6), Board(3, 2, [0, 1, 0, 1, 2, 0])), (Board(2, 1, [0, 0]),
                                                                                     count_board(2, 1))):
            bags = all_bags(one.many, one.size)
            values = [(a, b) for a in bags for b in bags] + [[a, b] for a in bags for b in bags] + any_values()
            values += list(mutants((bags[0], bags[-1])))
            self.judges(lambda value: is_parting_bags(one, other, value), lambda value: parts(one, other, value), values)

    def test_wrong_other_boards(self):
        one = Board(2, 2, [0, 1, 2])
        for wrong in [None, True, 0, "2 2 / 0 1 2", (2, 2, (0, 1, 2)), [], {}, Dials([0], [[0], [1]]), Board(1, 2, [0]),
                      Board(2, 1, [0, 1]), Board(3, 1, [0, 1, 2]), Board(2, 3, [0, 1, 2, 3])]:
            for function in (tells_no_less, parting_bags, both):
                self.refuses(InvalidOther, wrong, function, one, wrong)
            for value in (None, ((0, 0), (1, 1)), 5):
                self.refuses(InvalidOther, wrong, is_parting_bags, one, wrong, value)


class Lines(Case):
    def test_lines(self):
        self.assertEqual(Board(2, 3, [0, 1, -2, 0]).line(), "2 3 / 0 1 -2 0")
        self.assertEqual(Board(1, 6, [-LONG]).line(), "1 6 / -98765432109876543210")
        for board in small_boards() + [count_board(4, 6)]:
            words = [board.many, board.size, "/"] + list(board.signs)
            self.assertEqual(board.line(), " ".join(str(word) for word in words))
            self.assertEqual(read_board(board.line()), board)
            self.assertIs(type(read_board(board.line())), Board)

    def right(self, line):
        """The numbers of the line if it is the line of a board, by its words."""
        words = line.split(" ")
        try:
            numbers = [int(word) for word in words[:2] + words[3:]]
        except ValueError:
            return False
        if line != " ".join([str(number) for number in numbers[:2]] + ["/"] + [str(number) for number in numbers[2:]]):
            return False
        values, size = numbers[:2]
        return 1 <= values <= 4 and 1 <= size <= 6 and len(numbers) - 2 == len(all_bags(values, size))

    def try_line(self, line):
        if self.right(line):
            self.assertEqual(read_board(line).line(), line)
        else:
            self.refuses(InvalidLine, line, read_board, line)

    def test_lines_changed_at_one_character(self):
        for line in ("2 3 / 0 1 -2 0", "1 1 / 7", "2 1 / 10 -10", "3 1 / 0 5 0"):
            for at in range(len(line) + 1):
                self.try_line(line[:at] + line[at + 1:])
                for sign in " 0159-+/x._,~":
                    self.try_line(line[:at] + sign + line[at:])
                    self.try_line(line[:at] + sign + line[at + 1:])

    def test_wrong_lines(self):
        for line in ["", " ", "/", "2", "2 1", "2 1 /", "2 1 / ", "2 1 / 0", "2 1 / 0 1 2", "2 1 0 1", "2 1 / 0 1 ",
                     " 2 1 / 0 1", "2 1  / 0 1", "2 1 /  0 1", "2 1 / 00 1", "2 1 / 0 01", "02 1 / 0 1", "2 01 / 0 1",
                     "+2 1 / 0 1", "2 1 / +0 1", "2 1 / -0 1", "2 1 / 0 --1", "2 1 / 0 -", "2 1 / 0 1_0", "2 1 // 0 1",
                     "2 / 1 0 1", "/ 2 1 0 1", "2 1 / / 0 1", "0 1 /", "5 1 / 0 0 0 0 0", "2 0 / 0", "2 7 / 0 0 0 0 0 0",
                     "-2 1 / 0 1", "2 -1 / 0 1", "2 1 / 0x1 1", "2 1 / 1.0 1", "2 1 / 0 1\n", "2\t1 / 0 1", "two 1 / 0 1",
                     "2 1 / 0 1 / 0 1", "2 1 / 0 1 2 1 / 0 1", "2 1 / 0 \u0661", "2 1 / 0 \u00b2", "1 1 / 7" * 400]:
            self.assertFalse(self.right(line) and line.isascii())
            self.refuses(InvalidLine, line, read_board, line)

    def test_no_strings(self):
        for wrong in (None, True, 0, 21, [], ["2 1 / 0 1"], ("2 1 / 0 1",), {}, Board(2, 1, [0, 1]),
                      ["2", "1", "/", "0", "1"]):
            self.refuses(InvalidLine, wrong, read_board, wrong)


if __name__ == "__main__":
    unittest.main()
