import unittest

from oneforone.blocks import even
from oneforone.boards import Board, count_board, renamed, tells_no_less
from oneforone.shadows import closing, is_closing, shadow
from tests.cases import Case
from tests.walks import (all_bags, all_matches, any_values, even_boards, every_board, is_bag, is_change, is_even,
                         is_listed, is_short, klein_board, mutants, partitions, plus, random_boards, signs_by_bag)

GIVEN = Board(2, 3, [7, 1, 7, 5])
FIRST = ((0, 0, 0), (0, 1, 1), None)
SECOND = ((0, 0, 1), (1, 1, 1), ((0, 0), (0, 0), (0, 0), (1, 1), (0, 0), (1, 1)))


class Joins:
    """Which bags some entries join: for each bag the set of those that are joined to it."""

    def __init__(self, board):
        self.sets = {bag: {bag} for bag in all_bags(board.many, board.size)}

    def join(self, one, other):
        both = self.sets[one] | self.sets[other]
        for bag in both:
            self.sets[bag] = both

    def joined(self, one, other):
        return other in self.sets[one]

    def signs(self):
        return [sorted(each) for each in self.sets.values()]


def board_of(board, keys):
    places = sorted(keys)
    return Board(board.many, board.size, [places.index(key) for key in keys])


def follows(board, joins, entry):
    if type(entry) is not tuple or len(entry) != 3:
        return False
    one, other, why = entry
    if not is_bag(board, one, board.size) or not is_bag(board, other, board.size):
        return False
    if why is None:
        signs = signs_by_bag(board)
        return signs[one] == signs[other]
    if type(why) is not tuple or len(why) != 6 or not all(is_short(board, bag) for bag in why[:4]):
        return False
    if not is_change(board, why[4]) or not is_change(board, why[5]):
        return False
    first, second, third, fourth, (a, c), (b, d) = why
    return (joins.joined(plus(first, a), plus(second, c)) and joins.joined(plus(first, b), plus(second, d))
            and joins.joined(plus(third, a), plus(fourth, c)) and one == plus(third, b) and other == plus(fourth, d))


def closes(board, value):
    """By the words of the point, entry by entry; the bags that it joins, or None."""
    if not is_listed(value):
        return None
    joins = Joins(board)
    for entry in value:
        if not follows(board, joins, entry):
            return None
        joins.join(entry[0], entry[1])
    signs = signs_by_bag(board)
    if not all(joins.joined(one, other) for one in signs for other in signs if signs[one] == signs[other]):
        return None
    found = board_of(board, joins.signs())
    return found if is_even(found) else None


def slow_shadow(board):
    """Match by match: a change in two matches makes these one match, until nothing is new."""
    joins = Joins(board)
    signs = signs_by_bag(board)
    for one in signs:
        for other in signs:
            if signs[one] == signs[other]:
                joins.join(one, other)
    present = board_of(board, joins.signs())
    while not is_even(present):
        matches = all_matches(present)
        for (one, other), wide in matches.items():
            for (third, fourth), narrow in matches.items():
                if set(wide) & set(narrow):
                    for b, d in wide:
                        joins.join(plus(third, b), plus(fourth, d))
        present = board_of(board, joins.signs())
    return renamed(present)


def boards():
    found = [GIVEN, Board(1, 3, [5]), Board(3, 1, [4, 4, 1]), Board(4, 1, [0, 1, 2, 3])]
    found += every_board(2, 2) + every_board(2, 3) + every_board(2, 4)[::3] + every_board(3, 2)[::7] + even_boards()[::3]
    for values, size in ((2, 5), (2, 6), (3, 3), (3, 4), (4, 2), (4, 3)):
        found += random_boards(71, values, size, 4)
    return found


def finer(values, size):
    """Boards in which just two bags are like."""
    many = len(all_bags(values, size))
    for at in range(0, many, max(many // 5, 1)):
        for other in range(at):
            given = list(range(many))
            given[at] = other
            yield Board(values, size, given)


class Shadows(Case):
    def test_by_the_words(self):
        for board in boards():
            found = shadow(board)
            self.assertEqual(found, renamed(found))
            self.assertTrue(is_even(found))
            self.assertTrue(tells_no_less(board, found))
            self.assertEqual(found, slow_shadow(board))
            self.assertEqual(shadow(found), found)
            if is_even(board):
                self.assertEqual(found, renamed(board))

    def test_finest_even_board_among_all(self):
        for values, size in ((2, 2), (2, 3), (2, 4), (2, 5), (3, 2)):
            bags = all_bags(values, size)
            evens = [Board(values, size, signs) for signs in partitions(len(bags))]
            evens = [board for board in evens if is_even(board)]
            for board in every_board(values, size)[::5]:
                below = [each for each in evens if tells_no_less(board, each)]
                found = shadow(board)
                self.assertIn(found, below)
                self.assertTrue(all(tells_no_less(found, each) for each in below))

    def test_two_bags_that_are_like(self):
        for values, size in ((2, 6), (3, 3), (4, 2), (3, 4)):
            for board in finer(values, size):
                found = shadow(board)
                self.assertEqual(found, slow_shadow(board))
                self.assertEqual(renamed(closes(board, closing(board))), found)

    def test_large_boards(self):
        for board in (count_board(4, 6), klein_board(6)) + tuple(random_boards(72, 4, 6, 2)):
            found = shadow(board)
            self.assertTrue(even(found) and tells_no_less(board, found))
            self.assertIs(is_closing(board, closing(board)), True)


class Closings(Case):
    def test_closings(self):
        for board in boards():
            value = closing(board)
            self.assertIs(type(value), list)
            found = closes(board, value)
            self.assertIsNotNone(found)
            self.assertEqual(renamed(found), shadow(board))
            self.assertIs(is_closing(board, value), True)
            self.assertIs(is_closing(board, tuple(value)), True)

    def test_entries_that_join_nothing_new(self):
        bag = (0, 0, 1)
        for value in ([FIRST, SECOND], [FIRST, FIRST, SECOND, SECOND], [(bag, bag, None), FIRST, SECOND],
                      [FIRST, FIRST[1::-1] + (None,), SECOND], [FIRST, SECOND, FIRST]):
            self.assertIs(is_closing(GIVEN, value), True)
        self.assertIs(is_closing(count_board(2, 2), []), True)
        self.assertIs(is_closing(count_board(2, 2), ()), True)
        self.assertIs(is_closing(GIVEN, []), False)

    def test_chains_followed_either_way_round(self):
        board = Board(2, 3, [0, 0, 0, 1])
        bags = all_bags(2, 3)
        value = closing(board)
        first = [(bags[2], bags[1], None), (bags[1], bags[0], None)]
        self.assertIs(is_closing(board, first + value), True)
        rest = [entry for entry in value if entry[2] is not None]
        self.assertTrue(rest)
        self.assertIs(is_closing(board, first + rest), True)
        self.assertIs(is_closing(board, first[:1] + rest), closes(board, first[:1] + rest) is not None)

    def test_judge(self):
        three = Board(3, 2, [0, 1, 0, 2, 3, 4])
        for board in (GIVEN, Board(2, 2, [0, 1, 1]), Board(2, 3, [0, 0, 0, 1]), count_board(2, 2), Board(2, 1, [3, 3]),
                      three):
            right = closing(board)
            values = any_values() + list(mutants(right)) + [[entry] for entry in right]
            values += [right[::-1], right + right, right + [right[0]] if right else []]
            for at, entry in enumerate(right):
                one, other, why = entry
                for changed in ((other, one, why), (one, one, why), (one, other, None), [one, other, why]):
                    values.append(right[:at] + [changed] + right[at + 1:])
                    values.append(right + [changed])
                if why is not None:
                    first, second, third, fourth, change, beyond = why
                    for changed in ((first, second, third, fourth, beyond, change), why[::-1], why[:5], why + why[:1],
                                    (third, fourth, first, second, change, beyond), list(why),
                                    (second, first, fourth, third, change[::-1], beyond[::-1])):
                        values.append(right[:at] + [(one, other, changed)] + right[at + 1:])
                        values.append(right[:at] + [(other, one, changed)] + right[at + 1:])
                        values.append(right + [(one, other, changed)])
            self.judges(lambda value: is_closing(board, value), lambda value: closes(board, value) is not None, values)

    def test_reasons_look_at_the_entries_ahead_only(self):
        self.assertIs(is_closing(GIVEN, [SECOND, FIRST]), False)
        self.assertIs(is_closing(GIVEN, [FIRST]), False)
        why = ((0, 0), (0, 0), (0, 0), (1, 1), (1, 1), (0, 0))
        self.assertIs(is_closing(GIVEN, [FIRST, SECOND, ((0, 0, 0), (0, 1, 1), why)]), True)
        self.assertIs(is_closing(GIVEN, [((0, 0, 0), (0, 1, 1), why), FIRST, SECOND]), False)


if __name__ == "__main__":
    unittest.main()
