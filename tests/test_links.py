import unittest
from itertools import product

from oneforone.boards import count_board
from oneforone.dials import Dials
from oneforone.errors import InvalidAsk, InvalidReader, InvalidSet, InvalidSize, InvalidStint
from oneforone.failures import NotALink
from oneforone.links import joint_of, joints, link_asks, links, number, pieces, strands
from oneforone.scenes import Scene
from tests import sights
from tests.cases import NO_INTEGERS, Case
from tests.runs import ODD
from tests.sights import LINE, random_scenes
from tests.walks import any_values

REST = Dials([3], [[0], [1]])
SIZES = Scene(6, [(REST, [[0], [0, 1], [1, 2], [3], [], [0, 3, 5], [0, 4, 5], [1, 2], []]),
                  (count_board(2, 2), [[0, 5], [2, 3], [0, 5]])])


def scenes():
    return random_scenes(94, 80, values=(1, 2, 3), most_stints=7) + [LINE, SIZES]


class Links(Case):
    def test_by_the_words(self):
        many = set()
        for scene in scenes():
            for reader in range(len(scene.readers)):
                found = links(scene, reader)
                self.assertEqual(found, sights.links(scene, reader))
                self.assertTrue(type(found) is list and all(type(link) is tuple for link in found))
                many.add(len(found))
                asks = sights.asks_by_link(scene, reader)
                for link in found:
                    self.assertEqual(link_asks(scene, reader, link), min(asks[link]))
        self.assertTrue({0, 1, 3, 6} <= many)

    def test_asks_that_are_far_apart(self):
        scene = Scene(5, [(REST, [[0, 1], [2, 3, 4], [], [3], [1, 4], [0, 4]])])
        self.assertEqual(links(scene, 0), [(2, 0, 1), (2, 0, 4), (2, 1, 4)])
        self.assertEqual([link_asks(scene, 0, link) for link in links(scene, 0)], [(5, 4), (0, 4), (0, 5)])

    def test_several_sizes_for_one_reader(self):
        self.assertEqual(links(SIZES, 0), [(1, 0, 3), (2, 0, 2), (3, 3, 4)])
        self.assertEqual(links(SIZES, 1), [])
        self.assertEqual([link_asks(SIZES, 0, link) for link in links(SIZES, 0)], [(0, 3), (1, 2), (5, 6)])

    def test_equal_lots_link_nothing(self):
        scene = Scene(3, [(REST, [[0, 1], [0, 1], [1, 2], [0, 1]])])
        self.assertEqual(links(scene, 0), [(2, 0, 2)])
        self.assertEqual(link_asks(scene, 0, (2, 0, 2)), (0, 2))

    def test_no_links(self):
        for wrong in any_values() + [(2, 2, 0), (2, 0, 0), (2, 0, 1), (1, 0, 2), (3, 0, 2), [2, 0, 2], (2, 0, 2, 0), (2, 0),
                                     (2, False, 2), (True, 0, 3), (2, 0, -1), ("2", 0, 2), (2, 0, None), ((2, 0, 2),)]:
            self.fails(NotALink, {"link": wrong}, link_asks, SIZES, 0, wrong)
        wrong = [2, 0, 2]
        with self.assertRaises(NotALink) as caught:
            link_asks(SIZES, 0, wrong)
        self.assertIs(caught.exception.link, wrong)

    def test_wrong_readers(self):
        for wrong in NO_INTEGERS + [-1, 2]:
            self.refuses(InvalidReader, wrong, links, SIZES, wrong)
            self.refuses(InvalidReader, wrong, link_asks, SIZES, wrong, None)
            self.refuses(InvalidReader, wrong, strands, SIZES, wrong, None)
            self.refuses(InvalidReader, wrong, pieces, SIZES, wrong)
            self.refuses(InvalidReader, wrong, number, SIZES, wrong, None, None)


class Joining(Case):
    def test_strands(self):
        many = set()
        for scene in scenes():
            for reader, size in product(range(len(scene.readers)), range(1, 7)):
                found = strands(scene, reader, size)
                self.assertEqual(found, [list(part) for part in sights.strands(scene, reader, size)])
                self.assertTrue(all(type(part) is list for part in found))
                many.add(len(found))
        self.assertTrue({0, 1, 2} <= many)

    def test_sizes_without_asks(self):
        self.assertEqual([strands(SIZES, 0, size) for size in range(1, 7)], [[[0, 3]], [[0, 2]], [[3, 4]], [], [], []])
        self.assertEqual([strands(LINE, 0, size) for size in range(1, 7)], [[], [[0, 2], [1, 3]], [], [], [], []])
        for wrong in NO_INTEGERS + [0, 7, -1]:
            self.refuses(InvalidSize, wrong, strands, SIZES, 0, wrong)
            self.refuses(InvalidSize, wrong, strands, LINE, 0, wrong)

    def test_joints(self):
        for scene in scenes():
            found = joints(scene)
            self.assertEqual(found, [list(part) for part in sights.joints(scene)])
            for stint in range(scene.stints):
                self.assertIn(stint, found[joint_of(scene, stint)])
        self.assertEqual(joints(SIZES), [[0, 2, 3, 4], [1], [5]])

    def test_joints_over_two_readers(self):
        scene = Scene(5, [(REST, [[0], [2]]), (ODD, [[2, 3], [3, 4]]), (count_board(2, 1), [[1]])])
        self.assertEqual([joints(scene), joint_of(scene, 4), joint_of(scene, 1)], [[[0, 2, 4], [1], [3]], 0, 1])
        for wrong in NO_INTEGERS + [-1, 5]:
            self.refuses(InvalidStint, wrong, joint_of, scene, wrong)

    def test_a_long_joint(self):
        scene = Scene(12, [(REST, [[at, at + 1] for at in range(11)]), (REST, [[0, 3, 6], [1, 3, 6]])])
        self.assertEqual(joints(scene), [list(range(12))])
        self.assertEqual(strands(scene, 0, 2), [[0, 2, 4, 6, 8, 10], [1, 3, 5, 7, 9, 11]])

    def test_pieces(self):
        for scene in scenes():
            for reader in range(len(scene.readers)):
                found = pieces(scene, reader)
                self.assertEqual(found, [list(part) for part in sights.pieces(scene, reader)])
                self.assertTrue(all(type(part) is list for part in found))

    def test_pieces_of_equal_lots_and_of_several_sizes(self):
        self.assertEqual(pieces(SIZES, 0), [[0, 3], [1, 2, 7], [4, 8], [5, 6]])
        self.assertEqual(pieces(SIZES, 1), [[0, 2], [1]])
        self.assertEqual(pieces(Scene(2, [(REST, []), (REST, [[]])]), 0), [])
        self.assertEqual(pieces(Scene(2, [(REST, []), (REST, [[]])]), 1), [[0]])


class Numbers(Case):
    def test_by_the_words(self):
        for scene in scenes():
            for reader, (_, asks) in enumerate(scene.readers):
                for ask, lot in enumerate(asks):
                    for stints in [[], [0], list(range(scene.stints)), list(range(0, scene.stints, 2))] + joints(scene):
                        expected = len(set(lot) & set(stints))
                        self.assertEqual(number(scene, reader, ask, stints), expected)
                        self.assertEqual(number(scene, reader, ask, tuple(stints)), expected)

    def test_the_same_for_all_asks_of_a_piece(self):
        for scene in scenes():
            for reader, (_, asks) in enumerate(scene.readers):
                for piece in pieces(scene, reader):
                    for stints in joints(scene) + strands(scene, reader, max(len(asks[piece[0]]), 1)):
                        self.assertEqual(len({number(scene, reader, ask, stints) for ask in piece}), 1)

    def test_errors(self):
        for wrong in NO_INTEGERS + [-1, 9]:
            self.refuses(InvalidAsk, wrong, number, SIZES, 0, wrong, None)
        for wrong in [None, True, 3, "01", {}, [6], [-1], [1, 0], [0, 0], [True], [0, None], [[0]], (1, 0), list(range(7))]:
            self.refuses(InvalidSet, wrong, number, SIZES, 0, 0, wrong)


if __name__ == "__main__":
    unittest.main()
