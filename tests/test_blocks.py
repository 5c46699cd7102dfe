import unittest

from oneforone.blocks import (block_chain, block_of, blocks, even, is_block_chain, is_uneven, is_unseen, is_unsharp,
                              kinds, merged, same_values, seen, sharp, uneven, unseen, unsharp)
from oneforone.boards import Board, count_board, renamed
from oneforone.errors import InvalidChange
from oneforone.failures import Apart, NotEven
from tests.cases import NO_CHANGES, Case
from tests.walks import (all_bags, all_changes, all_matches, any_values, block_list, border, even_boards, every_board,
                         first_board, is_change, is_even, is_listed, is_seen, is_sharp, is_short, match, mutants, plus,
                         random_boards, short_bags, shows_uneven, shows_unseen, signs_by_bag, small_boards, sums_board)

MOST = Board(2, 2, [0, 1, 1])
ODD = Board(2, 2, [0, 1, 0])


def is_chain(board, one, other, value):
    if not is_listed(value) or not value:
        return False
    for pair in value:
        if type(pair) is not tuple or len(pair) != 2 or not all(is_short(board, bag) for bag in pair):
            return False
    matches = [set(match(board, *pair)) for pair in value]
    return (one in matches[0] and other in matches[-1]
            and all(before & after for before, after in zip(matches, matches[1:])))


def shortest(board, one):
    """For each change the number of tuples of the shortest chains from the change `one`."""
    matches = [set(each) for each in all_matches(board).values()]
    found = {}
    reached = [each for each in matches if one in each]
    steps = 1
    while reached:
        fresh = set().union(*reached) - set(found)
        found.update({change: steps for change in fresh})
        steps += 1
        reached = [each for each in matches if each & fresh and not each <= set(found)]
    return found


def shows_unsharp(board, value):
    if type(value) is not tuple or len(value) != 4 or not all(is_short(board, bag) for bag in value[:2]):
        return False
    if not all(is_change(board, change) for change in value[2:]):
        return False
    changes = match(board, *value[:2])
    (a, b), (c, d) = value[2:]
    return value[2] in changes and value[3] in changes and value[2] != value[3] and not (a == b and c == d)


class Blocks(Case):
    def test_blocks(self):
        for board in small_boards():
            found = blocks(board)
            self.assertEqual(found, block_list(board))
            self.assertTrue(all(type(block) is list for block in found))
            if board.size > 1:
                self.assertEqual(sorted(change for block in found for change in block), all_changes(board))
            for change in all_changes(board):
                own = [block for block in found if change in block]
                self.assertEqual(block_of(board, change), own[0] if own else None)

    def test_changes_in_no_match(self):
        board = Board(3, 1, [0, 1, 1])
        self.assertEqual(blocks(board), [[(0, 0), (1, 1), (1, 2), (2, 1), (2, 2)]])
        self.assertIsNone(block_of(board, (0, 1)))
        self.assertEqual(blocks(Board(1, 1, [4])), [[(0, 0)]])

    def test_chains(self):
        for board in small_boards():
            for one in all_changes(board):
                lengths = shortest(board, one)
                for other in all_changes(board):
                    if other in lengths:
                        found = block_chain(board, one, other)
                        self.assertIs(type(found), list)
                        self.assertEqual(len(found), lengths[other])
                        self.assertTrue(is_chain(board, one, other, found))
                        self.assertIs(is_block_chain(board, one, other, found), True)
                    else:
                        self.fails(Apart, {"one": one, "other": other}, block_chain, board, one, other)

    def test_long_chains(self):
        board = Board(3, 3, [0, 3, 6, 2, 7, 3, 0, 4, 2, 2])
        lengths = [len(block_chain(board, (0, 1), change)) for change in all_changes(board)]
        self.assertEqual(lengths, [3, 1, 1, 5, 3, 3, 4, 2, 3])
        found = block_chain(board, (0, 1), (1, 0))
        self.assertTrue(is_chain(board, (0, 1), (1, 0), found))
        for at in range(len(found)):
            self.assertIs(is_block_chain(board, (0, 1), (1, 0), found[:at] + found[at + 1:]), False)
            self.assertIs(is_block_chain(board, (0, 1), (1, 0), found[:at] + found[at:at + 1] + found[at:]), True)
        self.assertIs(is_block_chain(board, (1, 0), (0, 1), found[::-1]), True)
        self.assertIs(is_block_chain(board, (1, 0), (0, 1), found), False)

    def test_one_tuple_if_a_match_has_both(self):
        self.assertEqual(len(block_chain(MOST, (0, 1), (0, 1))), 1)
        self.assertEqual(block_chain(ODD, (0, 0), (1, 1)), block_chain(ODD, (0, 0), (1, 1)))
        self.assertEqual(len(block_chain(ODD, (0, 0), (1, 1))), 1)
        self.assertEqual(block_chain(Board(2, 1, [0, 0]), (0, 1), (1, 0)), [((), ())])

    def test_no_chain_for_a_change_in_no_match(self):
        board = Board(2, 1, [0, 1])
        self.fails(Apart, {"one": (0, 1), "other": (0, 1)}, block_chain, board, (0, 1), (0, 1))
        self.fails(Apart, {"one": (0, 0), "other": (1, 0)}, block_chain, board, (0, 0), (1, 0))
        self.fails(Apart, {"one": (0, 0), "other": (0, 1)}, block_chain, ODD, (0, 0), (0, 1))

    def test_wrong_changes(self):
        for wrong in NO_CHANGES + [(0, 2), (2, 0)]:
            self.refuses(InvalidChange, wrong, block_of, MOST, wrong)
            for function in (block_chain, lambda *given: is_block_chain(*given, None)):
                self.refuses(InvalidChange, wrong, function, MOST, wrong, (0, 0))
                self.refuses(InvalidChange, wrong, function, MOST, wrong, None)
                self.refuses(InvalidChange, wrong, function, MOST, (0, 0), wrong)

    def test_judge_of_chains(self):
        three = Board(3, 2, [0, 1, 1, 2, 3, 0])
        for board, one, other in ((MOST, (0, 1), (1, 0)), (MOST, (0, 0), (0, 0)), (ODD, (0, 0), (1, 1)),
                                  (Board(2, 1, [0, 1]), (0, 1), (0, 1)), (three, (0, 1), (2, 0))):
            short = short_bags(board)
            pairs = [(a, b) for a in short for b in short]
            values = [[pair] for pair in pairs] + [(pair,) for pair in pairs] + any_values() + [tuple(pairs)]
            values += [[first, second] for first in pairs for second in pairs]
            values += [[pairs[0], first, second] for first in pairs for second in pairs]
            values += list(mutants([pairs[0], pairs[-1]]))
            self.judges(lambda value: is_block_chain(board, one, other, value),
                        lambda value: is_chain(board, one, other, value), values)


class Evenness(Case):
    def test_even(self):
        for board in small_boards() + random_boards(3, 4, 4, 3):
            self.assertIs(even(board), is_even(board))
            witness = uneven(board)
            if is_even(board):
                self.assertIsNone(witness)
                self.assertEqual(kinds(board), block_list(board))
            else:
                self.assertTrue(shows_uneven(board, witness))
                self.assertIs(is_uneven(board, witness), True)
                self.fails_with(NotEven, lambda value: shows_uneven(board, value), kinds, board)

    def test_the_boards_are_of_all_sorts(self):
        sorts = {(is_even(board), is_seen(board), is_sharp(board)) for board in small_boards() if board.size > 1}
        # A board that is sharp is seen: the match of a bag with itself would have a change that is not unchanged.
        self.assertEqual(sorts, {(a, b, c) for a in (True, False) for b in (True, False) for c in (True, False)
                                 if b or not c})

    def test_size_one_is_always_even(self):
        for values in (1, 2, 3, 4):
            for board in every_board(values, 1):
                self.assertIs(even(board), True)
                self.assertIsNone(uneven(board))
                self.assertEqual(kinds(board), blocks(board))

    def test_boards_that_are_even(self):
        for board in even_boards():
            self.assertIs(even(board), True)

    def test_large_boards(self):
        self.assertIs(even(count_board(4, 6)), True)
        self.assertEqual(len(kinds(count_board(4, 6))), 13)
        signs = list(range(84))
        signs[83] = 0
        board = Board(4, 6, signs)
        self.assertIs(even(board), is_even(board))
        self.assertEqual(blocks(board), block_list(board))

    def test_judge_of_unevenness(self):
        for board in (MOST, ODD, Board(2, 1, [0, 1]), Board(3, 2, [0, 1, 1, 2, 3, 0]), Board(2, 3, [7, 1, 7, 5])):
            short, changes = short_bags(board), all_changes(board)
            values = any_values()
            values += [(one, other, third, fourth, change, beyond) for one in short for other in short[:2]
                       for third in short for fourth in short for change in changes for beyond in changes]
            if uneven(board) is not None:
                values += list(mutants(uneven(board)))
            self.judges(lambda value: is_uneven(board, value), lambda value: shows_uneven(board, value), values)


class Seen(Case):
    def test_seen(self):
        for board in small_boards():
            self.assertIs(seen(board), is_seen(board))
            witness = unseen(board)
            if is_seen(board):
                self.assertIsNone(witness)
            else:
                self.assertTrue(shows_unseen(board, witness))
                self.assertIs(is_unseen(board, witness), True)

    def test_judge(self):
        for board in (MOST, ODD, Board(3, 2, [0, 1, 1, 0, 1, 1]), Board(2, 1, [0, 0]), Board(3, 1, [5, 6, 5])):
            values = any_values() + [(bag, a, c) for bag in short_bags(board) for a in range(-1, 4) for c in range(-1, 4)]
            values += list(mutants((short_bags(board)[-1], 0, 1)))
            self.judges(lambda value: is_unseen(board, value), lambda value: shows_unseen(board, value), values)


class Sharp(Case):
    def test_sharp(self):
        for board in small_boards():
            self.assertIs(sharp(board), is_sharp(board))
            witness = unsharp(board)
            if is_sharp(board):
                self.assertIsNone(witness)
            else:
                self.assertTrue(shows_unsharp(board, witness))
                self.assertIs(is_unsharp(board, witness), True)

    def test_sharp_and_not_even(self):
        self.assertIs(sharp(border()), True)
        # The match of (0, 0, 0) and (1, 1, 1) is just [(0, 0)], that of a bag with itself has (1, 1), too.
        board = Board(2, 4, [0, 1, 2, 0, 3])
        self.assertEqual([sharp(board), even(board)], [True, False])
        found = [board for board in every_board(3, 2) + every_board(2, 4) if is_sharp(board) and not is_even(board)]
        self.assertTrue(found)
        self.assertTrue(all(sharp(board) for board in found))

    def test_judge(self):
        for board in (MOST, ODD, Board(3, 2, [0, 1, 2, 2, 3, 4]), Board(2, 1, [0, 0]), count_board(3, 2)):
            short, changes = short_bags(board), all_changes(board)
            values = any_values() + [(one, other, change, beyond) for one in short for other in short
                                     for change in changes for beyond in changes]
            values += list(mutants((short[0], short[-1], (0, 1), (1, 0))))
            self.judges(lambda value: is_unsharp(board, value), lambda value: shows_unsharp(board, value), values)


class Merged(Case):
    def same(self, board, a, c):
        signs = signs_by_bag(board)
        return all(signs[plus(bag, a)] == signs[plus(bag, c)] for bag in short_bags(board))

    def test_merged(self):
        for board in small_boards():
            if not is_even(board):
                self.fails_with(NotEven, lambda value: shows_uneven(board, value), same_values, board)
                self.fails_with(NotEven, lambda value: shows_uneven(board, value), merged, board)
                continue
            lists = same_values(board)
            self.assertEqual(lists, sorted(sorted(values) for values in lists))
            place = {value: at for at, values in enumerate(lists) for value in values}
            self.assertEqual(sorted(place), list(range(board.many)))
            for a in range(board.many):
                for c in range(board.many):
                    self.assertEqual(place[a] == place[c], self.same(board, a, c))
            small = merged(board)
            self.assertEqual((small.many, small.size), (len(lists), board.size))
            signs = signs_by_bag(board)
            for bag in all_bags(small.many, small.size):
                for choice in (0, -1):
                    self.assertEqual(small(bag), signs[tuple(sorted(lists[value][choice] for value in bag))])
            self.assertTrue(is_even(small) and is_seen(small))
            self.assertEqual(is_seen(board), len(lists) == board.many)

    def test_values_between_that_are_the_same(self):
        board = sums_board(3, [0, 5, 0, 5])
        self.assertEqual(same_values(board), [[0, 2], [1, 3]])
        self.assertEqual(merged(board).signs, (0, 1, 2, 3))
        self.assertEqual(same_values(Board(4, 1, [1, 2, 2, 1])), [[0, 3], [1, 2]])
        self.assertEqual(merged(Board(4, 1, [1, 2, 2, 1])), Board(2, 1, [1, 2]))
        self.assertEqual(merged(Board(3, 6, [5] * 28)), Board(1, 6, [5]))
        self.assertEqual(renamed(merged(first_board())), renamed(first_board()))


if __name__ == "__main__":
    unittest.main()
