import unittest
from itertools import product

from oneforone.blocks import sharp
from oneforone.boards import Board, count_board
from oneforone.dials import Dials
from oneforone.errors import InvalidHistory, InvalidStint
from oneforone.failures import UnsharpReader
from oneforone.scenes import Scene
from oneforone.sharp import chain, is_chain, one_valued
from tests import sights
from tests.cases import NO_INTEGERS, Case
from tests.runs import ODD, SOME
from tests.sights import LINE, UNEVEN, alike_lists, first_not, random_scenes, sharp_readers
from tests.test_bars import uneven_scenes
from tests.test_scenes import NO_HISTORIES
from tests.walks import any_values, is_int, is_sharp, mutants, random_boards

PAIR = Scene(3, [(count_board(2, 2), [[0, 1], [1, 2]])])
STAR = Scene(5, [(Dials([7], [[0], [1], [3]]), [[0], [1], [0, 2], [2, 3], [1, 3, 4], [0, 1, 4]])])


def all_steps(scene):
    return [(reader,) + link for reader in range(len(scene.readers)) for link in sights.asks_by_link(scene, reader)]


def is_right_chain(scene, history, stint, value):
    """By the words of the point."""
    if type(value) not in (list, tuple) or not value:
        return False
    steps = all_steps(scene)
    for step in value:
        if type(step) is not tuple or not all(is_int(each) for each in step) or step not in steps:
            return False
    if history[value[0][2]] == history[value[0][3]]:
        return False
    return all(one[3] == other[2] for one, other in zip(value, value[1:])) and value[-1][3] == stint


def values_of(history, joint):
    return {history[stint] for stint in joint}


def scenes(seed, times):
    found = random_scenes(seed, times, most_stints=6, good=sharp_readers) + [LINE, PAIR, STAR]
    return found + [scene for scene in uneven_scenes(seed, 60) if sharp_readers(scene)]


class Chains(Case):
    def test_by_the_words(self):
        told = set()
        for scene in scenes(111, 60):
            for history in sights.some_histories(scene, 111, 5):
                for joint in sights.joints(scene):
                    for stint in joint:
                        found = chain(scene, list(history), stint)
                        told.add(None if found is None else len(found))
                        self.assertEqual(found is None, len(values_of(history, joint)) == 1)
                        if found is not None:
                            self.assertIs(type(found), list)
                            self.assertTrue(is_right_chain(scene, history, stint, found))
                            self.assertIs(is_chain(scene, history, stint, found), True)
        self.assertTrue({None, 1, 2} <= told)

    def test_long_chains(self):
        scene = Scene(12, [(count_board(2, 1), [[at] for at in range(2)]), (Dials([3], [[0], [1]]), [[at] for at in range(1, 12)])])
        history = [1] + [0] * 11
        self.assertTrue(is_right_chain(scene, history, 11, chain(scene, history, 11)))
        path = Scene(12, [(count_board(2, 2), [[at, at + 1] for at in range(11)])])
        history = [1] + [0] * 11
        for stint in range(0, 12, 2):
            found = chain(path, history, stint)
            self.assertTrue(is_right_chain(path, history, stint, found))
        self.assertEqual([chain(path, history, stint) for stint in range(1, 12, 2)], [None] * 6)

    def test_judge(self):
        two = Scene(4, [(count_board(2, 2), [[0, 1], [1, 2]]), (Dials([3], [[0], [1]]), [[2], [3], [0, 1], [0, 3]])])
        for scene, history, stint in ((PAIR, [0, 1, 1], 0), (PAIR, [0, 1, 0], 2), (two, [0, 1, 1, 1], 3), (two, [0, 1, 1, 1], 0),
                                      (two, [0, 0, 0, 1], 1), (LINE, [0, 1, 1, 1], 2)):
            steps = all_steps(scene) + [(0, 2, 0, 1), (1, 2, 0, 2), (0, 1, 0, 2)]
            values = any_values() + [[step] for step in steps] + list(product(steps, steps)) + list(product(steps[:5], repeat=3))
            right = chain(scene, history, stint)
            if right is not None:
                values += list(mutants(right)) + [right[::-1], [list(step) for step in right], right + right, tuple(right)]
            self.judges(lambda value: is_chain(scene, history, stint, value),
                        lambda value: is_right_chain(scene, history, stint, value), values)

    def test_each_condition_broken_alone(self):
        there, back = (0, 2, 0, 2), (0, 2, 2, 0)
        for value, answer in (([back], True), ([there, back], True), ([there, back, there, back], True), ([there], False),
                              ([back, there], False), ([back, back], False), ([], False), ((back,), True), ([list(back)], False),
                              ([(0, 2, 1, 0)], False), ([(0, 1, 2, 0)], False), ([(1, 2, 2, 0)], False), ([(False, 2, 2, 0)], False)):
            self.assertIs(is_chain(PAIR, [0, 1, 1], 0, value), answer)
        self.assertIs(is_chain(PAIR, [0, 1, 0], 0, [back]), False)

    def test_what_sharp_readers_tell(self):
        for scene in scenes(112, 25):
            lists = alike_lists(scene) if scene.many ** scene.stints < 400 else {}
            for history in list(lists)[::5]:
                others = lists[history]
                single = [sights.joints(scene)[place] for place in one_valued(scene, history)]
                for joint in sights.joints(scene):
                    for stint in joint:
                        if chain(scene, history, stint) is not None:
                            self.assertEqual({each[stint] for each in others}, {history[stint]})
                    if joint in single:
                        self.assertTrue(all(len(values_of(each, joint)) == 1 for each in others))

    def test_unsharp_readers_first(self):
        odd = Scene(3, [(ODD, [[0], [1], [0, 1], [1, 2]])])
        self.assertEqual(first_not(odd, is_sharp), (0, 2))
        for scene, expected in ((odd, (0, 2)), (UNEVEN, (0, 3)),
                                (Scene(3, [(count_board(2, 2), [[0, 1], [1, 2]]), (SOME, [[0], [0, 1, 2], [0, 1], [0, 2]])]), (1, 2))):
            self.assertEqual(first_not(scene, is_sharp), expected)
            error = {"reader": expected[0], "size": expected[1]}
            self.fails(UnsharpReader, error, chain, scene, None, None)
            self.fails(UnsharpReader, error, is_chain, scene, None, None, None)
        for board in random_boards(111, 2, 2, 20) + random_boards(112, 3, 2, 20):
            scene = Scene(3, [(board, [[0, 1], [1, 2]])])
            if sharp(board):
                self.assertIsNone(chain(scene, [0, 0, 0], 1))
            else:
                self.fails(UnsharpReader, {"reader": 0, "size": 2}, chain, scene, [0, 0, 0], 1)
        quiet = Scene(3, [(Board(2, 2, [0, 1, 0]), [[0, 1], [0, 1]])])
        self.assertIsNone(chain(quiet, [0, 1, 0], 0))

    def test_wrong_arguments(self):
        for wrong in NO_HISTORIES:
            self.refuses(InvalidHistory, wrong, chain, PAIR, wrong, None)
            self.refuses(InvalidHistory, wrong, is_chain, PAIR, wrong, None, None)
            self.refuses(InvalidHistory, wrong, one_valued, PAIR, wrong)
            self.refuses(InvalidHistory, wrong, one_valued, Scene(3, [(ODD, [[0, 1], [1, 2]])]), wrong)
        for wrong in NO_INTEGERS + [-1, 3]:
            self.refuses(InvalidStint, wrong, chain, PAIR, [0, 1, 1], wrong)
            self.refuses(InvalidStint, wrong, is_chain, PAIR, [0, 1, 1], wrong, None)


class OneValued(Case):
    def test_by_the_words(self):
        for scene in random_scenes(113, 80, most_stints=6) + [UNEVEN, LINE]:
            for history in sights.some_histories(scene, 113, 4):
                expected = [place for place, joint in enumerate(sights.joints(scene)) if len(values_of(history, joint)) == 1]
                found = one_valued(scene, list(history))
                self.assertEqual(found, expected)
                self.assertIs(type(found), list)

    def test_readers_that_are_not_sharp(self):
        self.assertFalse(sharp_readers(UNEVEN))
        self.assertEqual(one_valued(UNEVEN, [0, 1, 1, 0]), [0, 1, 2])
        self.assertEqual(one_valued(UNEVEN, [0, 1, 1, 1]), [1, 2])
        self.assertEqual(one_valued(LINE, [0, 1, 1, 1]), [1])


if __name__ == "__main__":
    unittest.main()
