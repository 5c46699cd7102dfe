import random
import unittest
from itertools import combinations, product

from oneforone.boards import Board, count_board
from oneforone.dials import Dials
from oneforone.errors import InvalidHistory, InvalidReader, InvalidStint
from oneforone.failures import (NoAsks, NoSuchTrade, NotCounts, NotOpen, Pieces, TooMany, UnevenReader, UnseenReader,
                                UnsharpReader)
from oneforone.gates import every_history, gate, numbers_of
from oneforone.links import number
from oneforone.scenes import Scene
from oneforone.tables import trades_scene
from oneforone.totals import Total
from oneforone.ways import next_signs
from tests import lives, sights
from tests.cases import NO_INTEGERS, Case
from tests.runs import ODD, SOME
from tests.sights import LINE, UNEVEN, UNSEEN, alike_lists, first_not, lot_sign, random_scenes, seen_readers
from tests.test_scenes import NO_HISTORIES
from tests.walks import any_values, is_sharp

COUNTS = count_board(2, 2)
REST = Dials([2], [[0], [1]])
PAIR = Scene(3, [(COUNTS, [[0, 1], [1, 2]])])


def piece_of(rolls, source, stints, size, many):
    """A scene of one reader whose lots are one piece."""
    lot = rolls.sample(range(stints), size)
    lots = []
    for _ in range(many):
        lots.append(sorted(lot))
        others = [stint for stint in range(stints) if stint not in lot]
        if others and size:
            lot[rolls.randrange(size)] = rolls.choice(others)
    rolls.shuffle(lots)
    return Scene(stints, [(source, lots)])


def counting(values, size):
    """Sources with unlike signs for all bags of the size."""
    marks = [[7 ** value] for value in range(values)]
    found = [count_board(values, size), Dials([0], marks), Dials([7 ** values], marks)]
    if values == 2 and size < 7:
        found.append(Total(2, [[at, min(at + 1, 6)] for at in range(7)], [5, 9, -3, 2, 7, 8, 1]))
    return found


def random_pieces(seed, times):
    rolls = random.Random(seed)
    found = []
    for _ in range(times):
        stints = rolls.randint(1, 6)
        values = rolls.choice([1, 2, 2, 3])
        size = rolls.randint(1, min(stints, 4))
        found.append(piece_of(rolls, rolls.choice(counting(values, size)), stints, size, rolls.randint(1, 5)))
    return found


def have_like_sums(numbers):
    sums = [sum(chosen) for size in range(len(numbers) + 1) for chosen in combinations(numbers, size)]
    return len(set(sums)) < len(sums)


class Numbers(Case):
    def test_by_the_words(self):
        told = set()
        for scene in random_scenes(125, 150, most_stints=7) + random_pieces(125, 60):
            for reader, (_, lots) in enumerate(scene.readers):
                parts = sights.pieces(scene, reader)
                told.add(min(len(parts), 2))
                if len(parts) != 1:
                    self.fails(Pieces if parts else NoAsks, {"reader": reader}, numbers_of, scene, reader)
                    continue
                found = numbers_of(scene, reader)
                self.assertEqual(found, [len(set(lots[0]) & set(joint)) for joint in sights.joints(scene)])
                for ask in range(len(lots)):
                    self.assertEqual(found, [number(scene, reader, ask, list(joint)) for joint in sights.joints(scene)])
        self.assertEqual(told, {0, 1, 2})

    def test_errors(self):
        sizes = Scene(4, [(REST, [[0], [1, 2], [2]]), (REST, []), (REST, [[], []]), ])
        for wrong in NO_INTEGERS + [3, -1]:
            self.refuses(InvalidReader, wrong, numbers_of, sizes, wrong)
        self.fails(Pieces, {"reader": 0}, numbers_of, sizes, 0)
        self.fails(NoAsks, {"reader": 1}, numbers_of, sizes, 1)
        self.assertEqual(numbers_of(sizes, 2), [0, 0, 0])


class EveryHistory(Case):
    def right(self, scene, found):
        self.assertEqual([type(found), type(found[0]), type(found[1])], [tuple, tuple, tuple])
        self.assertEqual([len(each) for each in found], [scene.stints] * 2)
        self.assertNotEqual(*found)
        self.assertTrue(all(0 <= value < scene.many for history in found for value in history))
        self.assertEqual(sights.shown(scene, found[0]), sights.shown(scene, found[1]))

    def test_against_a_search(self):
        told = set()
        for scene in random_pieces(126, 250):
            found = every_history(scene)
            lists = alike_lists(scene)
            told.add((scene.many, found is None))
            self.assertEqual(found is None, all(len(others) == 1 for others in lists.values()))
            if scene.many > 1:
                self.assertEqual(found is None, not have_like_sums(numbers_of(scene, 0)))
            if found is not None:
                self.right(scene, found)
        self.assertEqual(told, {(1, True), (2, True), (2, False), (3, True), (3, False)})

    def test_many_joints(self):
        for lots in ([[0, 1, 2, 3, 4, 5]], [[5, 6, 7, 8, 9, 11], [4, 6, 7, 8, 9, 11]]):
            scene = Scene(12, [(count_board(3, 6), lots)])
            self.assertGreater(len(numbers_of(scene, 0)), 10)
            self.right(scene, every_history(scene))
        # Stints in no ask have the number 0.
        for scene in (Scene(3, [(COUNTS, [[0, 1]])]), Scene(3, [(count_board(2, 1), [[0], [1]])])):
            self.right(scene, every_history(scene))
        self.assertIsNone(every_history(Scene(3, [(count_board(2, 1), [[0], [1], [2]])])))
        self.assertIsNone(every_history(Scene(1, [(Dials([], [[]]), [[0]])])))
        self.assertIsNone(every_history(Scene(12, [(Dials([], [[]]), [[0]])])))

    def test_trades_tell_all(self):
        scene = trades_scene(count_board(4, 3), 4, 3, [(1, 3), (2, 1)])
        self.assertEqual(numbers_of(scene, 0), [1, 2])
        self.assertIsNone(every_history(scene))

    def test_errors_in_order(self):
        self.fails(NoAsks, {"reader": 0}, every_history, Scene(3, [(REST, [])]))
        self.fails(Pieces, {"reader": 0}, every_history, Scene(4, [(REST, [[0, 1], [2, 3]])]))
        self.fails(Pieces, {"reader": 0}, every_history, Scene(4, [(REST, [[0, 1], [2]])]))
        for source in (REST, ODD, SOME, Dials([0], [[1], [1]]), Dials([3], [[0], [1], [2]]), Board(2, 2, [0, 1, 0]),
                       Board(2, 2, [3, 3, 1]), Dials([0], [[0], [1], [2]])):
            self.fails(NotCounts, {"reader": 0}, every_history, Scene(3, [(source, [[0, 1], [1, 2]])]))
        self.assertIsNone(every_history(Scene(3, [(REST, [[0], [1], [2]])])))
        self.assertIsNone(every_history(Scene(2, [(ODD, [[0], [1]])])))
        for function in (numbers_of, every_history):
            self.assertEqual(len({str(function(PAIR, *[0] * (function is numbers_of))) for _ in range(3)}), 1)


def slow_stays_open(scene, others, stint, lot):
    """Whether the stint stays open in each of the alike histories, by the words of [108]."""
    source = scene.readers[0][0]
    signs = {each: lot_sign(source, lot, each) for each in others}
    return all(any(signs[one] == signs[other] and one[stint] != other[stint] for other in others) for one in others)


class Gates(Case):
    def test_against_a_search(self):
        told = set()
        rolls = random.Random(126)
        scenes = random_pieces(127, 120) + random_scenes(128, 200, most_stints=5)
        scenes += [Scene(rows, [(lives.STEPS, lots)]) for rows, lots in ((4, [[0, 1, 2], [1, 2, 3]]), (5, [[0, 1], [2, 4]]))]
        # Here all joints change together or none does.
        scenes += [Scene(4, [(Dials([3], [[0], [1]]), [[0, 1, 2], [0, 1, 3]])])]
        for scene in scenes:
            if len(scene.readers) > 1 or not seen_readers(scene) or scene.many ** scene.stints > 250:
                continue
            last = scene.readers[0][1][-1] if scene.readers[0][1] else ()
            sizes = sorted({size for _, size in sights.linked_sizes(scene)} | ({len(last)} if last else set()))
            unsharp = [size for size in sizes if not is_sharp(sights.board_at(scene, 0, size))]
            lists = alike_lists(scene)
            for history in sights.some_histories(scene, rolls.randrange(99), 1) + [(0,) * scene.stints]:
                for stint, out, into in product(range(scene.stints), repeat=3):
                    told.add(self.one(scene, lists, history, (stint, out, into), last, unsharp))
        self.assertEqual(told, {"unsharp", "trade", "known", (True, 0), (False, 0), (True, 1), (False, 1), (True, 2)})

    def one(self, scene, lists, history, given, last, unsharp):
        stint, out, into = given
        if unsharp:
            self.fails(UnsharpReader, {"reader": 0, "size": unsharp[0]}, gate, scene, history, *given)
            return "unsharp"
        if out not in last or into in last:
            self.fails(NoSuchTrade, {"out": out, "into": into}, gate, scene, history, *given)
            return "trade"
        others = lists[tuple(history)]
        if len({each[stint] for each in others}) == 1:
            self.fails(NotOpen, {"stint": stint}, gate, scene, history, *given)
            return "known"
        lot = sorted(set(last) - {out} | {into})
        found = gate(scene, list(history), *given)
        self.assertIs(found, slow_stays_open(scene, others, stint, lot))
        joint = [joint for joint in sights.joints(scene) if stint in joint][0]
        both = (out in joint) + (into in joint)
        if both == 1:
            source = scene.readers[0][0]
            signs = [lot_sign(source, lot, each) for each in others]
            self.assertEqual(found, set(signs) == {lot_sign(source, last, history)})
            self.assertEqual(found, next_signs(scene, history, 0, lot) == [lot_sign(source, last, history)])
        return found, both

    def test_errors_in_order(self):
        self.fails(UnevenReader, {"reader": 0, "size": 3}, gate, UNEVEN, None, None, None, None)
        self.fails(UnseenReader, {"reader": 0, "size": 1}, gate, UNSEEN, None, None, None, None)
        unsharp = Scene(11, [(REST, [[0], [1], [2, 3, 4]])])
        for wrong in NO_HISTORIES:
            self.refuses(InvalidHistory, wrong, gate, Scene(3, [(REST, [[0, 1]])]), wrong, None, None, None)
        self.fails(TooMany, {"count": 512 * 4}, gate, Scene(11, [(REST, [[2, 3, 4], [0, 1]])]), [0] * 11, None, None, None)
        self.fails(UnsharpReader, {"reader": 0, "size": 3}, gate, unsharp, [0] * 11, None, None, None)
        for wrong in NO_INTEGERS + [3, -1]:
            self.refuses(InvalidStint, wrong, gate, PAIR, [0, 1, 0], wrong, None, None)
        for out, into in ((1, 2), (2, 1), (0, 1), (0, 0), (1, 1), (3, 0), (1, 3), (1, -1), (-1, 0), (True, 0), (1, False), (None, 0),
                          (1, None), ([1], 0), (1, (0,)), ("1", 0)):
            self.fails(NoSuchTrade, {"out": out, "into": into}, gate, PAIR, [0, 0, 0], 0, out, into)
        for value in any_values():
            if value != 0:
                self.fails(NoSuchTrade, {"out": 1, "into": value}, gate, PAIR, [0, 1, 0], 0, 1, value)
        self.fails(NotOpen, {"stint": 2}, gate, PAIR, [0, 0, 0], 2, 1, 0)
        self.assertIs(gate(PAIR, [0, 1, 0], 2, 1, 0), False)

    def test_sizes_of_links_and_of_the_last_lot(self):
        lots = [[0, 1, 2], [0, 1, 3]]
        self.fails(UnsharpReader, {"reader": 0, "size": 3}, gate, Scene(4, [(REST, lots)]), [0] * 4, 0, 0, 2)
        self.fails(UnsharpReader, {"reader": 0, "size": 2}, gate, Scene(4, [(REST, lots + [[0, 3]])]), [0] * 4, 0, 0, 2)
        self.fails(UnsharpReader, {"reader": 0, "size": 3}, gate, Scene(4, [(REST, lots + [[0]])]), [0] * 4, 0, 0, 2)
        # Sizes without links do not count, but for the last lot; an empty last lot has no stint.
        self.assertIs(gate(Scene(4, [(REST, [[0, 1], [2]])]), [0] * 4, 0, 2, 3), True)
        self.fails(NotOpen, {"stint": 2}, gate, Scene(4, [(REST, [[0, 1], [2]])]), [0] * 4, 2, 2, 3)
        self.fails(UnsharpReader, {"reader": 0, "size": 2}, gate, Scene(4, [(REST, [[2], [0, 1]])]), [0] * 4, 0, 2, 3)
        self.fails(NoSuchTrade, {"out": 0, "into": 1}, gate, Scene(4, [(REST, [[0, 1], []])]), [0] * 4, 0, 0, 1)
        self.fails(UnsharpReader, {"reader": 0, "size": 3}, gate, Scene(4, [(REST, lots + [[]])]), [0] * 4, 0, 0, 1)

    def test_no_asks_and_sixty(self):
        self.fails(NoSuchTrade, {"out": 0, "into": 1}, gate, Scene(2, [(REST, [])]), [0, 0], 0, 0, 1)
        sixty = Scene(3, [(COUNTS, [[0, 1], [1, 2]] * 30)])
        for history, stint in product(([0, 1, 0], [1, 0, 1]), range(3)):
            for out, into in ((1, 0), (2, 0)):
                self.assertIs(gate(sixty, history, stint, out, into), gate(PAIR, history, stint, out, into))
        self.assertEqual([gate(LINE, (0, 1, 0, 1), 0, 2, 1), gate(LINE, (0, 1, 0, 1), 0, 3, 1)], [False, True])


if __name__ == "__main__":
    unittest.main()
