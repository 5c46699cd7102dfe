import random
import unittest
from itertools import product

from oneforone.bars import apart, bar, gone_along, is_bar
from oneforone.blocks import even
from oneforone.boards import Board, count_board
from oneforone.dials import Dials
from oneforone.errors import InvalidHistory, InvalidStint, InvalidValue
from oneforone.failures import Barred, UnevenReader, UnseenReader
from oneforone.scenes import Scene
from tests import sights
from tests.cases import NO_INTEGERS, Case
from tests.runs import ODD
from tests.sights import (LINE, UNEVEN, UNSEEN, all_histories, alike_lists, even_readers, first_not, in_one, kind_lists,
                          random_scenes, seen_readers, shown)
from tests.test_scenes import NO_HISTORIES
from tests.walks import KLEIN, any_values, is_even, is_int, is_seen, mutants, random_boards, sums_board

PAIR = Scene(3, [(count_board(2, 2), [[0, 1], [1, 2]])])
ODD_BOARD = Board(2, 3, [0, 1, 1, 0])


def table(scene):
    """For each reader and size with links its links and blocks."""
    return {at: ([link for link in sights.links(scene, at[0]) if link[0] == at[1]], kind_lists(scene, *at))
            for at in sights.linked_sizes(scene)}


def first_apart(given, one, other):
    for (reader, size), (links, kinds) in sorted(given.items()):
        for _, p, q in links:
            if not in_one(kinds, (one[p], other[p]), (one[q], other[q])):
                return reader, size, p, q
    return None


def is_right_bar(scene, given, one, other, value):
    """By the words of the point."""
    if type(value) is not tuple or not value or not all(is_int(each) for each in value[1:]):
        return False
    if value[0] == "strand" and len(value) == 5:
        reader, size, p, q = value[1:]
        if (reader, size) not in given or (size, p, q) not in given[reader, size][0]:
            return False
        return not in_one(given[reader, size][1], (one[p], other[p]), (one[q], other[q]))
    if value[0] == "ask" and len(value) == 3:
        _, reader, ask = value
        if not 0 <= reader < len(scene.readers) or ask not in [piece[0] for piece in sights.pieces(scene, reader)]:
            return False
        return shown(scene, one)[reader][ask] != shown(scene, other)[reader][ask]
    return False


def uneven_scenes(seed, times):
    """Scenes with boards that are even and not even, where they have links and where not."""
    rolls = random.Random(seed)
    found = []
    while len(found) < times:
        stints, values = rolls.randint(2, 4), rolls.choice([2, 2, 3])
        readers = []
        for board in random_boards(rolls.random(), values, rolls.randint(1, 3), rolls.randint(1, 2)):
            readers.append((board, sights.some_lots(rolls, board, stints)))
        found.append(Scene(stints, readers))
    return found


class Apart(Case):
    def test_by_the_words(self):
        told = set()
        for scene in random_scenes(101, 40, most_stints=4) + uneven_scenes(102, 40):
            given = table(scene)
            for one, other in list(product(all_histories(scene), repeat=2))[::7]:
                expected = first_apart(given, one, other)
                told.add((expected is None, even_readers(scene)))
                self.assertEqual(apart(scene, list(one), other), expected)
        self.assertEqual(told, set(product((True, False), repeat=2)))

    def test_none_for_alike_histories(self):
        for scene in random_scenes(103, 30, most_stints=4) + uneven_scenes(104, 30) + [UNEVEN, UNSEEN]:
            for one, others in alike_lists(scene).items():
                for other in others:
                    self.assertIsNone(apart(scene, one, other))

    def test_several_sizes_of_one_reader(self):
        scene = Scene(5, [(Dials([0], [[0], [1]]), [[0], [1], [2, 3], [3, 4]])])
        self.assertIsNone(apart(scene, [0, 1, 0, 1, 0], [0, 1, 1, 0, 1]))
        self.assertEqual(apart(scene, [0, 1, 0, 1, 0], [1, 1, 1, 0, 0]), (0, 1, 0, 1))
        self.assertEqual(apart(scene, [0, 1, 0, 1, 0], [0, 1, 1, 0, 0]), (0, 2, 2, 4))

    def test_equal_changes_in_no_block(self):
        scene = Scene(2, [(Board(3, 1, [0, 1, 0]), [[0], [1]])])
        self.assertEqual(apart(scene, [0, 0], [1, 1]), (0, 1, 0, 1))
        self.assertIsNone(apart(scene, [0, 1], [2, 1]))
        self.assertIsNone(apart(scene, [1, 1], [1, 1]))
        self.assertEqual(bar(scene, [0, 0], [1, 1]), ("strand", 0, 1, 0, 1))

    def test_errors(self):
        for wrong in NO_HISTORIES:
            for scene in (PAIR, Scene(3, [(Board(2, 2, [0, 1, 1]), [[0, 1], [1, 2]])])):
                self.refuses(InvalidHistory, wrong, apart, scene, wrong, [0, 0, 0])
                self.refuses(InvalidHistory, wrong, apart, scene, wrong, None)
                self.refuses(InvalidHistory, wrong, apart, scene, [0, 0, 0], wrong)


class Bars(Case):
    def test_by_the_words(self):
        sorts = set()
        for scene in random_scenes(105, 50, most_stints=4, good=even_readers):
            given = table(scene)
            for one, other in list(product(all_histories(scene), repeat=2))[::9]:
                found = bar(scene, list(one), other)
                self.assertEqual(found is None, shown(scene, one) == shown(scene, other))
                sorts.add(None if found is None else found[0])
                if found is not None:
                    self.assertTrue(is_right_bar(scene, given, one, other, found))
                    self.assertIs(is_bar(scene, one, other, found), True)
        self.assertEqual(sorts, {None, "strand", "ask"})

    def test_none_exactly_if_alike_against_all_histories(self):
        for scene in (PAIR, LINE, Scene(4, [(sums_board(2, [0, 1], 2), [[0, 1], [1, 2]]), (ODD, [[3], [], [1, 2, 3]])])):
            lists = alike_lists(scene)
            for one in lists:
                for other in lists:
                    self.assertEqual(bar(scene, one, other) is None, other in lists[one])

    def test_judge(self):
        several = Scene(4, [(Dials([3], [[0], [1]]), [[0], [1], [0, 1], [1, 2], [0, 1]]), (count_board(2, 2), [[2, 3]])])
        for scene, one, other in ((PAIR, [0, 1, 0], [1, 0, 0]), (PAIR, [0, 0, 0], [1, 0, 1]), (PAIR, [0, 1, 0], [1, 0, 1]),
                                  (several, [0, 0, 0, 0], [1, 0, 1, 1]), (several, [0, 1, 1, 0], [0, 1, 1, 1]),
                                  (several, [0, 0, 1, 0], [0, 1, 1, 0])):
            given = table(scene)
            values = any_values() + [("ask", reader, ask) for reader in range(-1, 4) for ask in range(-1, 6)]
            values += [("strand",) + each for each in product(range(-1, 3), range(4), range(-1, 4), range(-1, 4))]
            for right in (("ask", 0, 0), ("strand", 0, 2, 0, 2), ("strand", 0, 1, 0, 1)):
                values += list(mutants(right)) + [right[::-1], right[1:], right[:1], list(right), (right[0].upper(),) + right[1:],
                                                  (None,) + right[1:], ("bar",) + right[1:]]
            self.judges(lambda value: is_bar(scene, one, other, value),
                        lambda value: is_right_bar(scene, given, one, other, value), values)

    def test_each_condition_broken_alone(self):
        self.assertIs(is_bar(PAIR, [0, 1, 0], [1, 0, 0], ("strand", 0, 2, 0, 2)), True)
        self.assertIs(is_bar(PAIR, [0, 1, 0], [1, 0, 0], ("strand", 0, 2, 2, 0)), False)
        self.assertIs(is_bar(PAIR, [0, 1, 0], [1, 0, 0], ("strand", 0, 2, 0, 1)), False)
        self.assertIs(is_bar(PAIR, [0, 0, 0], [1, 0, 1], ("ask", 0, 0)), True)
        self.assertIs(is_bar(PAIR, [0, 0, 0], [1, 0, 1], ("ask", 0, 1)), False)
        self.assertIs(is_bar(PAIR, [0, 1, 0], [1, 0, 1], ("ask", 0, 0)), False)

    def test_errors_in_order(self):
        for scene in (UNEVEN, Scene(3, [(count_board(2, 2), [[0, 1]]), (Board(2, 2, [0, 1, 1]), [[0, 1], [1, 2]])])):
            at = first_not(scene, is_even)
            for function, more in ((bar, ()), (is_bar, (None,))):
                self.fails(UnevenReader, {"reader": at[0], "size": at[1]}, function, scene, None, None, *more)
        for wrong in NO_HISTORIES:
            self.refuses(InvalidHistory, wrong, bar, PAIR, wrong, None)
            self.refuses(InvalidHistory, wrong, bar, PAIR, [0, 0, 0], wrong)
            self.refuses(InvalidHistory, wrong, is_bar, PAIR, wrong, None, None)
            self.refuses(InvalidHistory, wrong, is_bar, PAIR, [0, 0, 0], wrong, None)

    def test_the_least_uneven_reader(self):
        total = Scene(4, [(count_board(2, 2), [[0, 1], [1, 2]]), (UNEVEN.readers[0][0], [[0, 1, 2]])]).readers
        self.assertIsNone(bar(Scene(4, total), [0] * 4, [0] * 4))
        caps = sights.runs.Total(2, [[0, 1], [1, 1]], [0, 1])
        asks = [[0], [1], [0, 1, 2], [1, 2, 3], [0, 1], [1, 2]]
        for given, expected in (([(caps, asks)], (0, 2)), ([(ODD, asks), (caps, asks[2:4]), (caps, asks)], (1, 3)),
                                ([(caps, asks[:2]), (caps, asks[:5] + [[0, 2]])], (1, 2))):
            scene = Scene(4, given)
            self.assertEqual(first_not(scene, is_even), expected)
            self.fails(UnevenReader, {"reader": expected[0], "size": expected[1]}, bar, scene, [0] * 4, [0] * 4)
        quiet = Scene(4, [(caps, [[0], [1], [0, 1], [2, 3]])])
        self.assertIsNone(bar(quiet, [0, 0, 1, 1], [0, 0, 1, 1]))
        for board in random_boards(106, 2, 3, 20):
            scene = Scene(4, [(board, [[0, 1, 2], [1, 2, 3]])])
            if even(board):
                self.assertIsNone(bar(scene, [0] * 4, [0] * 4))
            else:
                self.fails(UnevenReader, {"reader": 0, "size": 3}, bar, scene, [0] * 4, [0] * 4)


def forced(scene, history, stint, value):
    """All forced tuples, by the words of the point."""
    strands = [(strand, kind_lists(scene, reader, size)) for reader, size in sights.linked_sizes(scene)
               for strand in sights.strands(scene, reader, size)]
    found = {(stint, value)}
    while True:
        more = set(found)
        for p, v in found:
            for strand, kinds in strands:
                if p not in strand or v is None:
                    continue
                having = [kind for kind in kinds if (history[p], v) in kind]
                for q in strand:
                    if q != p:
                        ends = [there for here, there in having[0] if here == history[q]] if having else []
                        more.add((q, ends[0] if ends else None))
        if more == found:
            return found
        found = more


class GoingAlong(Case):
    def test_by_the_words(self):
        told = set()
        for scene in random_scenes(107, 80, most_stints=5, good=seen_readers):
            joints = sights.joints(scene)
            for history in sights.some_histories(scene, 107, 4):
                for stint, value in product(range(scene.stints), range(scene.many)):
                    tuples = forced(scene, history, stint, value)
                    stints = sorted(each for each, _ in tuples)
                    wrong = sorted({each for each in stints if stints.count(each) > 1 or (each, None) in tuples})
                    told.add(bool(wrong))
                    if wrong:
                        self.fails(Barred, {"stint": wrong[0]}, gone_along, scene, list(history), stint, value)
                        continue
                    found = gone_along(scene, list(history), stint, value)
                    self.assertEqual(found, tuple(sorted(tuples)))
                    self.assertEqual([each for each, _ in found], list([part for part in joints if stint in part][0]))
                    self.assertTrue(type(found) is tuple and all(type(each) is tuple for each in found))
        self.assertEqual(told, {True, False})

    def test_the_history_itself(self):
        for scene in random_scenes(108, 40, good=seen_readers):
            for history in sights.some_histories(scene, 108, 2):
                for stint in range(scene.stints):
                    found = gone_along(scene, history, stint, history[stint])
                    self.assertTrue(all(history[each] == value for each, value in found))

    def test_joints_of_one_stint_several_strands_and_readers(self):
        sums = count_board(2, 2)
        self.assertEqual(gone_along(Scene(3, [(sums, [[0, 1]])]), [0, 1, 1], 2, 0), ((2, 0),))
        scene = Scene(6, [(sums, [[0, 5], [1, 5], [2, 5]]), (Dials([0], [[3], [1]]), [[2, 4], [3, 4]])])
        self.assertEqual(gone_along(scene, [0, 0, 0, 0, 1, 1], 3, 1), ((0, 1), (1, 1), (2, 1), (3, 1)))
        self.fails(Barred, {"stint": 0}, gone_along, scene, [1, 0, 0, 0, 1, 1], 3, 1)
        self.fails(Barred, {"stint": 2}, gone_along, scene, [0, 0, 1, 0, 1, 1], 3, 1)

    def test_two_values_forced(self):
        # Two readers whose boards lead on in unlike ways.
        turn = Dials([3], [[0], [1], [2]])
        back = Dials([3], [[0], [2], [1]])
        odd = Dials([0], [[0], [1], [2]])
        four = Dials([4], [[0], [1], [2], [3]])
        both = Scene(3, [(four, [[0, 2], [1, 2]]), (KLEIN, [[0, 2], [1, 2]])])
        self.assertEqual(forced(both, (0, 1, 0), 0, 1), {(0, 1), (0, 3), (1, 0), (1, 2)})
        self.fails(Barred, {"stint": 0}, gone_along, both, [0, 1, 0], 0, 1)
        late = Scene(4, [(four, [[1, 2], [2, 3]]), (KLEIN, [[1, 2], [2, 3]])])
        self.fails(Barred, {"stint": 1}, gone_along, late, [0, 0, 0, 1], 3, 2)
        self.assertEqual(gone_along(late, [0, 0, 0, 1], 3, 1), ((1, 0), (3, 1)))
        for scene in (both, late, Scene(3, [(turn, [[0], [1]]), (back, [[0, 2], [1, 2]])]),
                      Scene(3, [(odd, [[0, 2], [1, 2]]), (Dials([0], [[0], [1], [4]]), [[0, 2], [1, 2]])])):
            for history in all_histories(scene):
                for value in range(scene.many):
                    tuples = forced(scene, history, 0, value)
                    stints = sorted(each for each, _ in tuples)
                    wrong = [each for each in stints if stints.count(each) > 1 or (each, None) in tuples]
                    if wrong:
                        self.fails(Barred, {"stint": min(wrong)}, gone_along, scene, history, 0, value)
                    else:
                        self.assertEqual(gone_along(scene, history, 0, value), tuple(sorted(tuples)))

    def test_none_where_no_kind_has_the_change(self):
        scene = Scene(2, [(count_board(2, 1), [[0], [1]])])
        self.fails(Barred, {"stint": 1}, gone_along, scene, [0, 0], 0, 1)
        self.fails(Barred, {"stint": 0}, gone_along, scene, [0, 0], 1, 1)
        self.assertEqual(gone_along(scene, [0, 1], 0, 0), ((0, 0), (1, 1)))

    def test_errors_in_order(self):
        self.fails(UnevenReader, {"reader": 0, "size": 3}, gone_along, UNEVEN, None, None, None)
        at = first_not(UNSEEN, is_seen)
        self.fails(UnseenReader, {"reader": at[0], "size": at[1]}, gone_along, UNSEEN, None, None, None)
        for wrong in NO_HISTORIES:
            self.refuses(InvalidHistory, wrong, gone_along, PAIR, wrong, None, None)
        for wrong in NO_INTEGERS + [-1, 3]:
            self.refuses(InvalidStint, wrong, gone_along, PAIR, [0, 1, 0], wrong, None)
        for wrong in NO_INTEGERS + [-1, 2]:
            self.refuses(InvalidValue, wrong, gone_along, PAIR, [0, 1, 1], 0, wrong)

    def test_all_readers_are_even_ahead_of_seen(self):
        scene = Scene(4, list(UNEVEN.readers[:0]) + [(Dials([0], [[1], [1]]), [[0], [1]]), UNEVEN.readers[0]])
        self.fails(UnevenReader, {"reader": 1, "size": 3}, gone_along, scene, [0] * 4, 0, 0)
        scene = Scene(4, [(count_board(2, 2), [[0, 1], [1, 2]]), (Dials([0], [[1], [1]]), [[0, 1], [2, 3], [1, 2, 3], [0, 2, 3]])])
        self.fails(UnseenReader, {"reader": 1, "size": 3}, gone_along, scene, [0] * 4, 0, 0)


if __name__ == "__main__":
    unittest.main()
