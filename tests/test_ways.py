import unittest
from itertools import product

from oneforone.boards import count_board
from oneforone.dials import Dials
from oneforone.errors import InvalidHistory, InvalidJoint, InvalidLot, InvalidReader, InvalidStint
from oneforone.failures import Barred, TooMany, UnevenReader, UnseenReader
from oneforone.bars import gone_along
from oneforone.scenes import Scene
from oneforone.ways import (count_alike, fates, histories_alike, known, next_signs, stays_open, sure_same, twin, ways)
from tests import sights
from tests.cases import NO_INTEGERS, NO_LISTS, Case
from tests.runs import ODD
from tests.sights import LINE, UNEVEN, UNSEEN, all_histories, alike_lists, first_not, lot_sign, random_scenes, seen_readers
from tests.test_bars import forced
from tests.test_scenes import NO_HISTORIES
from tests.walks import is_seen

COUNTS = count_board(2, 2)
PAIR = Scene(3, [(COUNTS, [[0, 1], [1, 2]])])
REST = Dials([2], [[0], [1]])
FOUR = Dials([4], [[0], [1], [2], [3]])
# Each stint is a joint of its own, with all values as its ways.
LOOSE = Scene(10, [(REST, [[0, 1, 2, 3, 4, 5]])])
WIDE = Scene(11, [(REST, [[0, 1, 2, 3, 4, 5]])])


def product_of(numbers):
    found = 1
    for number in numbers:
        found *= number
    return found


def slow_ways(scene, history, joint):
    found = []
    for value in range(scene.many):
        tuples = forced(scene, history, joint[0], value)
        if (len(tuples) == len({stint for stint, _ in tuples})) and not any(each is None for _, each in tuples):
            found.append(tuple(each for _, each in sorted(tuples)))
    return found


def scenes(seed, times, most_stints=5):
    return random_scenes(seed, times, most_stints=most_stints, good=seen_readers) + [PAIR, LINE]


def lots_of(scene, reader):
    source = scene.readers[reader][0]
    sizes = [source.size] if hasattr(source, "size") else [0, 1, 2, 3]
    return [list(lot) for size in sizes for lot in sights.runs.all_things(scene.stints, size)
            if list(lot) == sorted(set(lot))]


class Ways(Case):
    def test_by_the_words(self):
        many = set()
        for scene in scenes(104, 60):
            for history in sights.some_histories(scene, 104, 4):
                for place, joint in enumerate(sights.joints(scene)):
                    found = ways(scene, list(history), place)
                    self.assertEqual(found, slow_ways(scene, history, joint))
                    self.assertTrue(type(found) is list and all(type(way) is tuple for way in found))
                    self.assertIn(tuple(history[stint] for stint in joint), found)
                    many.add(len(found))
        self.assertEqual(many, {1, 2, 3})

    def test_as_gone_along_tells(self):
        for scene in scenes(105, 30):
            for history in sights.some_histories(scene, 105, 3):
                for place, joint in enumerate(sights.joints(scene)):
                    found = []
                    for value in range(scene.many):
                        try:
                            found.append(tuple(each for _, each in gone_along(scene, history, joint[0], value)))
                        except Barred:
                            pass
                    self.assertEqual(ways(scene, history, place), found)

    def test_errors_in_order(self):
        self.fails(UnevenReader, {"reader": 0, "size": 3}, ways, UNEVEN, None, None)
        at = first_not(UNSEEN, is_seen)
        self.fails(UnseenReader, {"reader": at[0], "size": at[1]}, ways, UNSEEN, None, None)
        for wrong in NO_HISTORIES:
            self.refuses(InvalidHistory, wrong, ways, PAIR, wrong, None)
        for wrong in NO_INTEGERS + [-1, 2]:
            self.refuses(InvalidJoint, wrong, ways, PAIR, [0, 1, 0], wrong)


class Alike(Case):
    def test_against_a_search_of_all_histories(self):
        lengths = set()
        for scene in scenes(106, 60):
            lists = alike_lists(scene)
            for history in list(lists)[::5]:
                others = lists[history]
                given = list(history)
                found = histories_alike(scene, given)
                self.assertEqual(found, others)
                self.assertTrue(type(found) is list and all(type(each) is tuple for each in found))
                self.assertEqual(count_alike(scene, given), len(others))
                expected = [tuple(sorted({each[stint] for each in others})) for stint in range(scene.stints)]
                self.assertEqual(fates(scene, given), expected)
                self.assertEqual(known(scene, given), [stint for stint, fate in enumerate(expected) if len(fate) == 1])
                lengths.add(len(others))
        self.assertTrue({1, 2, 3, 4} <= lengths)

    def test_twins(self):
        told = set()
        for scene in scenes(107, 40):
            lists = alike_lists(scene)
            for history in list(lists)[::7]:
                for stint in range(scene.stints):
                    found = twin(scene, list(history), stint)
                    told.add(found is None)
                    if found is None:
                        self.assertEqual({each[stint] for each in lists[history]}, {history[stint]})
                    else:
                        self.assertIn(found, lists[history])
                        self.assertNotEqual(found[stint], history[stint])
                        self.assertIs(type(found), tuple)
        self.assertEqual(told, {True, False})

    def test_two_stints(self):
        told = set()
        for scene in scenes(108, 40):
            lists = alike_lists(scene)
            for history in list(lists)[::9]:
                for one, other in product(range(scene.stints), repeat=2):
                    same = {each[one] == each[other] for each in lists[history]}
                    expected = {(True,): "always", (False,): "never"}.get(tuple(same), "open")
                    self.assertEqual(sure_same(scene, list(history), one, other), expected)
                    told.add(expected)
                self.assertEqual(sure_same(scene, history, 0, 0), "always")
        self.assertEqual(told, {"always", "never", "open"})

    def test_next_signs(self):
        lengths = set()
        for scene in scenes(109, 40, most_stints=4):
            lists = alike_lists(scene)
            for history in list(lists)[::11]:
                for reader, (source, _) in enumerate(scene.readers):
                    for lot in lots_of(scene, reader):
                        signs = {lot_sign(source, lot, each) for each in lists[history]}
                        found = next_signs(scene, list(history), reader, lot)
                        self.assertEqual(found, sorted(signs))
                        self.assertIs(type(found), list)
                        self.assertEqual(next_signs(scene, history, reader, tuple(lot)), found)
                        lengths.add(len(found))
        self.assertTrue({1, 2, 3} <= lengths)

    def test_staying_open(self):
        told = set()
        for scene in scenes(110, 40, most_stints=4):
            lists = alike_lists(scene)
            for history in list(lists)[::11]:
                others = lists[history]
                for reader, (source, _) in enumerate(scene.readers):
                    for lot in lots_of(scene, reader):
                        for stint in range(scene.stints):
                            found = stays_open(scene, list(history), stint, reader, lot)
                            told.add(found is None)
                            wrong = [each for each in others if not any(
                                lot_sign(source, lot, each) == lot_sign(source, lot, more) and each[stint] != more[stint]
                                for more in others)]
                            self.assertTrue(found in wrong if wrong else found is None)
                            self.assertIn(type(found), (tuple, type(None)))
        self.assertEqual(told, {True, False})


class Statements(Case):
    def test_a_value_at_one_stint_settles_the_values_of_its_joint(self):
        for scene in scenes(8, 40):
            lists = alike_lists(scene)
            for history in list(lists)[::5]:
                for joint in sights.joints(scene):
                    for stint in joint:
                        settled = {}
                        for other in lists[history]:
                            values = tuple(other[each] for each in joint)
                            self.assertEqual(settled.setdefault(other[stint], values), values)

    def test_changes_of_a_strand_are_of_one_kind(self):
        for scene in scenes(9, 30):
            lists = alike_lists(scene)
            for reader, size in sights.linked_sizes(scene):
                kinds = sights.kind_lists(scene, reader, size)
                for strand in sights.strands(scene, reader, size):
                    for one in list(lists)[::9]:
                        for other in lists[one]:
                            changes = {(one[stint], other[stint]) for stint in strand}
                            self.assertTrue(any(changes <= set(kind) for kind in kinds))


class Limits(Case):
    def test_the_product_of_the_ways(self):
        self.assertEqual(count_alike(LOOSE, [0] * 10), 512)
        self.assertEqual(len(histories_alike(LOOSE, [1] * 10)), 512)
        self.assertEqual(fates(LOOSE, (0,) * 10), [(0, 1)] * 10)
        for function, more in ((histories_alike, ()), (count_alike, ()), (fates, ()), (known, ()), (twin, (None,)),
                               (sure_same, (None, None)), (next_signs, (None, None)), (stays_open, (None, None, None))):
            self.fails(TooMany, {"count": 2048}, function, WIDE, [0] * 11, *more)
        five = Scene(5, [(FOUR, [])])
        self.assertEqual(count_alike(five, [0] * 5), 1024)
        self.fails(TooMany, {"count": 4096}, known, Scene(6, [(FOUR, [])]), [0] * 6)
        self.fails(TooMany, {"count": 4 ** 12}, known, Scene(12, [(FOUR, [[0]])]), [0] * 12)

    def test_twelve_stints_with_few_ways(self):
        path = Scene(12, [(COUNTS, [[at, at + 1] for at in range(11)])])
        turned = tuple(1 - at % 2 for at in range(12))
        history = [at % 2 for at in range(12)]
        self.assertEqual(histories_alike(path, history), [tuple(history), turned])
        self.assertEqual([known(path, history), twin(path, history, 3)], [[], turned])
        self.assertEqual(known(path, [0, 0] + history[2:]), list(range(12)))
        three = Scene(12, [(FOUR, [list(range(at, at + 3)) for at in range(10)]), (FOUR, [[0, 1]])])
        self.assertEqual(count_alike(three, [0] * 12), 4)
        self.assertEqual([product_of(len(ways(three, [0] * 12, at)) for at in range(3)), sure_same(three, [0] * 12, 0, 3)],
                         [64, "always"])

    def test_ways_that_are_barred_count_less(self):
        scene = Scene(12, [(count_board(4, 1), [[at] for at in range(12)])])
        self.assertEqual(count_alike(scene, [3] * 12), 4 ** 0)
        self.assertEqual(known(scene, [0, 1, 2, 3] * 3), list(range(12)))


class Errors(Case):
    def functions(self):
        return ((histories_alike, ()), (count_alike, ()), (fates, ()), (known, ()), (twin, (None,)),
                (sure_same, (None, None)), (next_signs, (None, None)), (stays_open, (None, None, None)))

    def test_the_readers_and_the_history(self):
        at = first_not(UNSEEN, is_seen)
        for function, more in self.functions():
            self.fails(UnevenReader, {"reader": 0, "size": 3}, function, UNEVEN, None, *more)
            self.fails(UnseenReader, {"reader": at[0], "size": at[1]}, function, UNSEEN, None, *more)
            for wrong in NO_HISTORIES:
                self.refuses(InvalidHistory, wrong, function, PAIR, wrong, *more)
            wrong = [0] * 10
            self.refuses(InvalidHistory, wrong, function, WIDE, wrong, *more)

    def test_the_other_arguments(self):
        history = [0, 1, 0]
        for wrong in NO_INTEGERS + [-1, 3]:
            self.refuses(InvalidStint, wrong, twin, PAIR, history, wrong)
            self.refuses(InvalidStint, wrong, sure_same, PAIR, history, wrong, None)
            self.refuses(InvalidStint, wrong, sure_same, PAIR, history, 0, wrong)
            self.refuses(InvalidStint, wrong, stays_open, PAIR, history, wrong, None, None)
        for wrong in NO_INTEGERS + [-1, 1]:
            self.refuses(InvalidReader, wrong, next_signs, PAIR, history, wrong, None)
            self.refuses(InvalidReader, wrong, stays_open, PAIR, history, 0, wrong, None)
        for wrong in NO_LISTS + [[], [0], [0, 1, 2], [1, 0], [0, 0], [0, 3], [0, True], (2, 1)]:
            self.refuses(InvalidLot, wrong, next_signs, PAIR, history, 0, wrong)
            self.refuses(InvalidLot, wrong, stays_open, PAIR, history, 0, 0, wrong)

    def test_a_reader_with_sixty_asks(self):
        scene = Scene(3, [(COUNTS, [[0, 1], [1, 2]] * 30)])
        self.assertEqual(next_signs(scene, [0, 1, 0], 0, [0, 2]), [0, 2])
        self.assertIsNone(stays_open(scene, [0, 1, 0], 0, 0, [0, 1]))
        self.assertIn(stays_open(scene, [0, 1, 0], 0, 0, [0, 2]), [(0, 1, 0), (1, 0, 1)])

    def test_empty_lots(self):
        scene = Scene(2, [(ODD, [[0, 1], [1]]), (REST, [])])
        self.assertEqual([next_signs(scene, [0, 1], 0, []), next_signs(scene, [0, 1], 1, ())], [[5], [(0,)]])
        free = Scene(2, [(ODD, [[0, 1]])])
        self.assertIsNone(stays_open(free, [0, 1], 0, 0, []))
        self.assertEqual(next_signs(free, [0, 1], 0, [1]), [5, 7])

    def test_histories_of_all_values(self):
        scene = Scene(2, [(FOUR, [[0, 1]])])
        for history in all_histories(scene):
            self.assertEqual(count_alike(scene, history), 4)


if __name__ == "__main__":
    unittest.main()
