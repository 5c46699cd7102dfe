import random
import unittest
from itertools import product

from oneforone.boards import count_board
from oneforone.comers import unclear
from oneforone.dials import Dials, difference
from oneforone.errors import InvalidHistory, InvalidReader
from oneforone.failures import NotDials, NotLive, SameMarks, TooMany, UnclearReader, UnevenReader, UnseenReader
from oneforone.live import live_scene
from oneforone.nobody import closed, closed_shifts, closed_ways, count_shifted, met, nobody
from oneforone.scenes import Scene
from oneforone.totals import Total
from oneforone.ways import ways
from tests import lives, sights
from tests.cases import NO_INTEGERS, Case
from tests.lives import STEPS
from tests.runs import ODD, orderless_totals
from tests.sights import UNEVEN, UNSEEN, alike_lists, dials_of, first_not, random_scenes, seen_readers
from tests.test_scenes import NO_HISTORIES
from tests.walks import all_bags, rest

REST = Dials([2], [[0], [1]])
SAME = Dials([0], [[1], [1]])
LOTS = Scene(6, [(REST, [[0, 1], [], [2, 3, 4], [1, 4], [2, 3]]), (count_board(2, 2), [[0, 1], [4, 5]]), (ODD, [[5], []])])


def slow_nobody(scene, reader):
    lots = [set(lot) for lot in scene.readers[reader][1]]
    return [stint for stint in range(scene.stints)
            if any(stint not in one and one | {stint} == other for one in lots for other in lots)]


def slow_places(scene, is_met):
    alone = {stint for reader in range(len(scene.readers)) for stint in slow_nobody(scene, reader)}
    return [place for place, joint in enumerate(sights.joints(scene)) if bool(alone & set(joint)) == is_met]


def is_clear(source, size):
    """By the words of [85]."""
    values = range(source.many)
    short = all_bags(source.many, size - 1)
    signs = {bag: sights.sign_of(source, bag) for bag in short + all_bags(source.many, size)}
    return not any(signs[one] == signs[other] and signs[tuple(sorted(one + (a,)))] == signs[tuple(sorted(other + (c,)))]
                   for one in short for other in short for a in values for c in values if a != c)


def first_unclear(scene):
    for reader, (source, lots) in enumerate(scene.readers):
        for size in range(1, 7):
            pairs = [(one, other) for one in lots for other in lots if len(other) == size and len(one) == size - 1]
            if any(set(one) < set(other) for one, other in pairs) and not is_clear(source, size):
                return reader, size
    return None


def more_scenes(seed, times):
    """Scenes of live tables, too, which have met joints."""
    found = random_scenes(seed, times, most_stints=6) + [LOTS]
    for rows, inside, deeds in lives.random_tables(seed, times):
        source = random.Random(rows + len(deeds)).choice(lives.sources() + list(orderless_totals()[::9]))
        found.append(live_scene(source, rows, inside, deeds))
    return found


class Nobody(Case):
    def test_by_the_words(self):
        told = set()
        for scene in more_scenes(132, 150):
            for reader in range(len(scene.readers)):
                found = nobody(scene, reader)
                self.assertEqual(found, slow_nobody(scene, reader))
                told.add((type(scene.readers[reader][0]), len(found) > 0))
            self.assertEqual(closed(scene), slow_places(scene, False))
        self.assertTrue({(Dials, True), (Total, True), (Dials, False)} <= told)

    def test_wherever_the_lots_stand(self):
        self.assertEqual([nobody(LOTS, 0), nobody(LOTS, 1), nobody(LOTS, 2)], [[4], [], [5]])
        self.assertEqual([nobody(Scene(2, [(REST, lots)]), 0) for lots in (
            [[0], [1], [0, 1]], [[0, 1], [], [1]], [[0], [0]], [[0]], [[]], [[], [0, 1]], [])], [[0, 1], [0, 1], [], [], [], [], []])
        # Stint 4 is alone in its joint by one reader; stints 0 and 3 are linked, stint 4 with 0 too.
        self.assertEqual(closed(LOTS), slow_places(LOTS, False))

    def test_wrong_reader(self):
        for wrong in NO_INTEGERS + [3, -1]:
            self.refuses(InvalidReader, wrong, nobody, LOTS, wrong)


class Met(Case):
    def test_by_the_words_and_known(self):
        told = set()
        for scene in more_scenes(133, 220):
            if not seen_readers(scene):
                continue
            wrong = first_unclear(scene)
            if wrong is not None:
                told.add((type(scene.readers[wrong[0]][0]), wrong[1]))
                self.fails(UnclearReader, {"reader": wrong[0], "size": wrong[1]}, met, scene)
                continue
            found = met(scene)
            self.assertEqual(found, slow_places(scene, True))
            self.assertEqual(sorted(found + closed(scene)), list(range(len(sights.joints(scene)))))
            told.add(len(found))
            if scene.many ** scene.stints <= 3000:
                known = [stint for place in found for stint in sights.joints(scene)[place]]
                for history, others in alike_lists(scene).items():
                    for stint in known:
                        self.assertEqual({each[stint] for each in others}, {history[stint]})
        self.assertTrue({0, 1, 2, (Total, 1), (Total, 2)} <= told)

    def test_errors_in_order(self):
        told = set()
        for scene in more_scenes(134, 150):
            uneven, unseen = first_not(scene, sights.is_even), first_not(scene, sights.is_seen)
            if uneven is not None:
                told.add("uneven")
                self.fails(UnevenReader, {"reader": uneven[0], "size": uneven[1]}, met, scene)
            elif unseen is not None:
                told.add("unseen")
                self.fails(UnseenReader, {"reader": unseen[0], "size": unseen[1]}, met, scene)
        self.assertEqual(told, {"uneven", "unseen"})
        self.fails(UnevenReader, {"reader": 0, "size": 3}, met, Scene(4, [UNEVEN.readers[0], (SAME, [[], [0], [1]])]))
        self.fails(UnseenReader, {"reader": 1, "size": 1}, met, Scene(4, [(SAME, [[], [0]]), (SAME, [[0], [1]])]))
        self.fails(UnclearReader, {"reader": 0, "size": 1}, met, Scene(4, [(SAME, [[], [0]]), (SAME, [[0]])]))
        self.fails(UnseenReader, {"reader": 0, "size": 1}, met, UNSEEN)

    def test_the_least_size(self):
        self.fails(UnclearReader, {"reader": 1, "size": 2}, met,
                   Scene(6, [(REST, [[], [0]]), (SAME, [[0, 1, 2], [0, 1, 2, 3], [4], [4, 5]])]))
        self.assertEqual(met(Scene(6, [(SAME, [[0, 1, 2], [4], [2, 3, 4, 5]])])), [])
        clear = [total for total in orderless_totals() if total.many > 1 and unclear(total, 1) is None and unclear(total, 3)]
        for total in clear[:5]:
            self.assertEqual(met(Scene(4, [(total, [[], [0]])])), [0])
            self.fails(UnclearReader, {"reader": 0, "size": 3}, met, Scene(4, [(total, [[], [0], [0, 1, 2], [1, 2]])]))
        self.assertTrue(clear)

    def test_dials_with_equal_marks(self):
        self.fails(UnclearReader, {"reader": 0, "size": 1}, met, Scene(2, [(SAME, [[], [0]])]))
        self.assertEqual(met(Scene(2, [(Dials([], [[]]), [[], [0]])])), [0])
        self.assertEqual(met(Scene(1, [(STEPS, [])])), [])


def slow_shifts(dials, joint, history, choices):
    found = []
    for choice in choices:
        shifts = {tuple(rest(dials.marks[to][dial] - dials.marks[history[stint]][dial], around)
                        for dial, around in enumerate(dials.rounds)) for stint, to in zip(joint, choice)}
        assert len(shifts) == 1
        found.append(shifts.pop())
    return sorted(found)


def live_scenes(seed, times):
    rolls = random.Random(seed)
    found = []
    tables = lives.random_tables(seed, times, most_stints=6)
    tables += lives.random_tables(seed, times // 3, words=("trade",)) + [(4, [0, 1, 2], [("trade", 0, 3), ("trade", 1, 0)])]
    for rows, inside, deeds in tables:
        dials = rolls.choice([each for values in (1, 2, 3) for each in dials_of(values)] + [
            Dials([0, 3], [[-5, 0], [0, 1], [-5, 2]]), Dials([0], [[-7], [-4], [-1]]), Dials([5, 2, 0], [[0, 1, 3], [4, 0, 3]])])
        found.append(live_scene(dials, rows, inside, deeds))
    return found


class Closed(Case):
    def test_against_a_search(self):
        told = set()
        for scene in live_scenes(135, 220):
            lists = alike_lists(scene)
            dials, lots = scene.readers[0]
            joints = sights.joints(scene)
            for history in sights.some_histories(scene, 135, 3):
                found = closed_ways(scene, list(history))
                self.assertEqual(found, [ways(scene, history, place) for place in slow_places(scene, False)])
                shifts = closed_shifts(scene, history)
                for place, choices, pair in zip(slow_places(scene, False), found, shifts):
                    number = len(set(joints[place]) & set(lots[0]))
                    self.assertEqual(pair, (number, slow_shifts(dials, joints[place], history, choices)))
                    self.assertEqual([type(pair), type(pair[1])], [tuple, list])
                    told.add(("number", number))
                self.assertEqual(count_shifted(scene, history), len(lists[history]))
                told.add(len(found))
        self.assertTrue({0, 1, 2, 3, ("number", 0), ("number", 1), ("number", 2)} <= told)

    def test_the_alike_histories_are_those_of_the_choices(self):
        for scene in live_scenes(136, 60):
            places = slow_places(scene, False)
            joints = sights.joints(scene)
            lists = alike_lists(scene)
            for history in sights.some_histories(scene, 136, 2):
                made = set()
                for choice in product(*closed_ways(scene, history)):
                    other = list(history)
                    for place, values in zip(places, choice):
                        for stint, value in zip(joints[place], values):
                            other[stint] = value
                    made.add(tuple(other))
                self.assertLessEqual(set(lists[history]), made)

    def test_not_live_but_even_numbers(self):
        scene = Scene(4, [(REST, [[0, 1], [0, 2], [1, 3], [2, 3]])])
        self.assertEqual([len(each) for each in alike_lists(scene).values()], [count_shifted(scene, each)
                                                                               for each in alike_lists(scene)])

    def test_no_asks(self):
        scene = Scene(3, [(Dials([3], [[0], [2]]), [])])
        self.assertEqual(closed_ways(scene, [0, 1, 0]), [[(0,), (1,)]] * 3)
        self.assertEqual(closed_shifts(scene, [0, 1, 0]), [(0, [(0,), (2,)]), (0, [(0,), (1,)]), (0, [(0,), (2,)])])
        self.assertEqual(count_shifted(scene, [0, 1, 0]), 8)
        self.assertEqual(closed_shifts(Scene(2, [(Dials([], [[]]), [[0]])]), [0, 0]), [(1, [()]), (0, [()])])
        self.assertEqual(count_shifted(Scene(1, [(Dials([], [[]]), [])]), [0]), 1)

    def test_shifts_are_rests(self):
        scene = Scene(3, [(Dials([4, 0], [[3, -5], [1, 2]]), [[0, 1], [1, 2]])])
        self.assertEqual(closed_shifts(scene, [0, 0, 0]), [(1, [(0, 0), (2, 7)]), (1, [(0, 0), (2, 7)])])
        self.assertEqual(closed_shifts(scene, [1, 0, 1]), [(1, [(0, 0), (2, -7)]), (1, [(0, 0), (2, 7)])])
        self.assertEqual(difference(scene.readers[0][0], 1, 0), (2, 7))

    def test_errors_in_order(self):
        same = Dials([0], [[1], [1]])
        for function in (closed_ways, closed_shifts, count_shifted):
            for source in (count_board(2, 1), ODD):
                self.fails(NotDials, {"reader": 0}, function, Scene(3, [(source, [[0], [1]])]), None)
            self.fails(SameMarks, {"one": 0, "other": 1}, function, Scene(2, [(same, [[0], [0, 1]])]), None)
            lame = Scene(3, [(REST, [[0, 1], [2]])])
            for wrong in NO_HISTORIES:
                self.refuses(InvalidHistory, wrong, function, lame, wrong)
            self.fails(NotLive, {"joint": 0}, function, lame, [0, 0, 0])
            self.fails(NotLive, {"joint": 2}, function, Scene(4, [(REST, [[0, 1], [0, 1, 2, 3]])]), [0, 0, 0, 1])
            # The joint of stint 2 is met, so its numbers may be unlike.
            self.assertIsNotNone(function(Scene(3, [(REST, [[0, 1], [0, 1, 2]])]), [0, 0, 0]))

    def test_not_live_against_the_words(self):
        told = set()
        rolls = random.Random(137)
        for _ in range(250):
            stints = rolls.randint(1, 6)
            dials = rolls.choice(dials_of(2))
            lots = sights.some_lots(rolls, dials, stints)
            scene = Scene(stints, [(dials, lots if rolls.random() < 0.5 else lots[:3])])
            joints = sights.joints(scene)
            lame = [place for place in slow_places(scene, False)
                    if len({len(set(joints[place]) & set(lot)) for lot in scene.readers[0][1]}) > 1]
            told.add(len(lame))
            history = [0] * scene.stints
            if lame:
                self.fails(NotLive, {"joint": lame[0]}, closed_ways, scene, history)
            elif scene.many ** scene.stints < 2000:
                self.assertEqual(count_shifted(scene, history), len(alike_lists(scene)[tuple(history)]))
        self.assertTrue({0, 1} <= told)

    def test_many_choices(self):
        for stints, marks, count in ((10, 2, 1024), (11, 2, 2048), (6, 3, 729), (7, 3, 2187), (5, 4, 1024), (12, 1, 1)):
            scene = Scene(stints, [(Dials([8], [[0], [1], [2], [4]][:marks]), [list(range(min(stints, 6)))])])
            history = [0] * stints
            if count > 1024:
                self.fails(TooMany, {"count": count}, count_shifted, scene, history)
            elif marks ** stints <= 1024:
                self.assertEqual(count_shifted(scene, history), len(alike_lists(scene)[tuple(history)]))
            else:
                self.assertEqual(count_shifted(scene, history), 1)
            self.assertEqual([len(each[1]) for each in closed_shifts(scene, history)], [marks] * stints)
        # A joint that is not live comes ahead.
        self.fails(NotLive, {"joint": 0}, count_shifted, Scene(12, [(REST, [[0], [1, 2, 3]])]), [0] * 12)


if __name__ == "__main__":
    unittest.main()
