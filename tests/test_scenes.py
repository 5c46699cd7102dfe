import unittest

from oneforone.boards import Board, count_board
from oneforone.dials import Dials
from oneforone.errors import (InvalidAsk, InvalidHistory, InvalidLot, InvalidReader, InvalidReaders, InvalidSize,
                              InvalidStints)
from oneforone.failures import TooMany
from oneforone.scenes import Scene, alike, bag_at, is_history, signs_of, with_ask, without_ask
from oneforone.totals import Total
from tests.cases import NO_INTEGERS, NO_LISTS, Case
from tests.runs import LAST, ODD, SOME, sign
from tests.sights import all_histories, lot_sign, random_scenes, shown, sign_of, some_histories
from tests.walks import all_bags, any_values, is_int, mutants

COUNTS = count_board(2, 2)
REST = Dials([2], [[0], [1]])
THREE = Scene(4, [(COUNTS, [[0, 1], [1, 3]]), (REST, [[], [0], [0, 1, 2, 3]]), (SOME, [[2, 3], [1]])])
SMALL = Scene(3, [(COUNTS, [[0, 1], [1, 2]]), (REST, [[2], []])])
NO_HISTORIES = NO_LISTS + [[], [0, 0], [0, 0, 0, 0], [0, 0, 2], [0, -1, 0], [0, True, 0], [0, None, 0], ["0", 0, 0],
                           [[0], 0, 0], (0, 0), {"a": 0}, "000"]
NO_READERS = NO_INTEGERS + [-1, 2, 3]


class Making(Case):
    def test_attributes(self):
        scene = Scene(4, ((COUNTS, ([0, 1], (1, 3))), (REST, [[], (0,)])))
        self.assertEqual([scene.stints, scene.many], [4, 2])
        self.assertEqual(scene.readers, ((COUNTS, ((0, 1), (1, 3))), (REST, ((), (0,)))))
        self.assertIs(scene.readers[0][0], COUNTS)
        for reader in scene.readers:
            self.assertTrue(type(reader) is tuple and type(reader[1]) is tuple)
            self.assertTrue(all(type(lot) is tuple for lot in reader[1]))

    def test_equality(self):
        self.assertEqual(SMALL, Scene(3, ((Board(2, 2, (0, 1, 2)), ((0, 1), (1, 2))), (Dials([2], [[2], [3]]), ((2,), ())))))
        for other in (Scene(4, SMALL.readers), Scene(3, SMALL.readers[:1]), Scene(3, SMALL.readers[::-1]), None, 3, (),
                      Scene(3, [(COUNTS, [[1, 2], [0, 1]]), SMALL.readers[1]]), SMALL.readers, COUNTS,
                      Scene(3, [(Board(2, 2, [0, 1, 3]), [[0, 1], [1, 2]]), SMALL.readers[1]])):
            self.assertFalse(SMALL == other)
            self.assertFalse(other == SMALL)

    def test_the_lists_are_not_kept(self):
        lot, asks = [0, 1], []
        asks.append(lot)
        readers = [(COUNTS, asks)]
        scene = Scene(2, readers)
        lot[0] = 1
        asks.append([0, 1])
        readers.append((REST, []))
        self.assertEqual(scene, Scene(2, [(COUNTS, [[0, 1]])]))

    def test_limits(self):
        lots = [[0, 1]] * 60
        self.assertEqual(Scene(12, [(COUNTS, lots)] * 3).readers[2][1], ((0, 1),) * 60)
        readers = [(COUNTS, lots + [[0, 1]])]
        self.refuses(InvalidReaders, readers, Scene, 12, readers)
        readers = [(COUNTS, [])] * 4
        self.refuses(InvalidReaders, readers, Scene, 12, readers)
        self.assertEqual(Scene(1, [(REST, [])]).readers, ((REST, ()),))
        self.assertEqual(Scene(12, [(REST, [[0, 2, 4, 6, 8, 11]])]).readers[0][1], ((0, 2, 4, 6, 8, 11),))
        self.assertEqual(Scene(12, [(count_board(2, 6), [[0, 2, 4, 6, 8, 11]])]).many, 2)

    def test_wrong_stints(self):
        for wrong in NO_INTEGERS + [0, 13, -1]:
            self.refuses(InvalidStints, wrong, Scene, wrong, [(REST, [])])
            self.refuses(InvalidStints, wrong, Scene, wrong, None)

    def test_wrong_readers(self):
        for wrong in NO_LISTS + [[], [None], [(REST,)], [(REST, [], [])], [[REST, []]], [(REST, None)], [(None, [])], [REST],
                                 [(REST, {})], [(REST, "")], [(LAST, [])], [((2,), [])], [(REST, []), (LAST, [[0]])],
                                 [(REST, []), (Dials([2], [[0], [1], [1]]), [])], [(COUNTS, []), (count_board(3, 2), [])],
                                 [(ODD, []), (Total(1, [[0]], [0]), [])], [(1, [])], [(True, [])], [(THREE, [])]]:
            self.refuses(InvalidReaders, wrong, Scene, 4, wrong)

    def test_wrong_lots(self):
        for lot in (None, 0, "0", {}, [4], [-1], [True], [False], [0, 0], [1, 0], [0, 1, 1], [None], ["0"], [[0]], [(0,)],
                    [0, 1, 2, 3, 4], (1, 0)):
            for source in (REST, ODD):
                readers = [(source, [[0, 1], lot])]
                self.refuses(InvalidReaders, readers, Scene, 4, readers)
        for lot in ([], [0], [0, 1, 2], [1, 0], [0, 7]):
            readers = [(COUNTS, [lot])]
            self.refuses(InvalidReaders, readers, Scene, 7, readers)
        for lot in ([0, 1, 2, 3, 4, 5, 6], (0, 1, 2, 3, 4, 5, 7)):
            readers = [(REST, [lot])]
            self.refuses(InvalidReaders, readers, Scene, 12, readers)


class Showing(Case):
    def test_boards(self):
        for scene in random_scenes(91, 60, values=(1, 2, 3, 4)):
            for reader, (source, _) in enumerate(scene.readers):
                for size in range(1, 7):
                    if isinstance(source, Board):
                        if size == source.size:
                            self.assertEqual(scene.board(reader, size), source)
                        else:
                            self.refuses(InvalidSize, size, scene.board, reader, size)
                        continue
                    found = scene.board(reader, size)
                    signs = [sign_of(source, bag) for bag in all_bags(scene.many, size)]
                    if isinstance(source, Dials):
                        signs = [sorted(set(signs)).index(each) for each in signs]
                    self.assertEqual(found, Board(scene.many, size, signs))

    def test_signs(self):
        for scene in random_scenes(92, 60):
            for history in some_histories(scene, 92, 5):
                for reader, (source, asks) in enumerate(scene.readers):
                    for ask, lot in enumerate(asks):
                        found = scene.sign(reader, ask, list(history))
                        self.assertEqual(found, lot_sign(source, lot, history))
                        self.assertIs(type(found), tuple if isinstance(source, Dials) else int)
                        self.assertEqual(scene.sign(reader, ask, history), found)
                        bag = bag_at(scene, reader, ask, history)
                        self.assertEqual(bag, tuple(sorted(history[stint] for stint in lot)))
                        self.assertIs(type(bag), tuple)

    def test_signs_of(self):
        for scene in random_scenes(93, 60):
            for history in some_histories(scene, 93, 5):
                found = signs_of(scene, history)
                self.assertEqual(found, shown(scene, history))
                self.assertTrue(type(found) is list and all(type(each) is tuple for each in found))

    def test_all_three_kinds_of_sources(self):
        self.assertEqual(signs_of(THREE, [0, 1, 1, 0]), [(1, 1), ((0,), (0,), (0,)), (7, 7)])
        self.assertEqual(THREE.sign(2, 0, [0, 1, 1, 0]), sign(SOME, (0, 1)))
        self.assertEqual([THREE.board(0, 2), THREE.board(1, 3).signs, THREE.board(2, 6).signs],
                         [COUNTS, (0, 1, 0, 1), (5,) + (7,) * 6])
        for size in (1, 3, 0, 7):
            self.refuses(InvalidSize, size, THREE.board, 0, size)

    def test_alike(self):
        told = set()
        for scene in random_scenes(94, 30, most_stints=3):
            for one in all_histories(scene):
                for other in all_histories(scene):
                    answer = shown(scene, one) == shown(scene, other)
                    told.add(answer)
                    self.assertIs(alike(scene, list(one), other), answer)
        self.assertEqual(told, {True, False})

    def test_histories(self):
        def right(value):
            return type(value) in (list, tuple) and len(value) == 3 and all(is_int(each) and each in (0, 1) for each in value)
        values = any_values() + NO_HISTORIES + list(mutants([0, 1, 1])) + [[0, 1, 1], (1, 0, 0), [1] * 3, [0] * 4, [0, 1, 2]]
        self.judges(lambda value: is_history(SMALL, value), right, values)
        self.assertIs(is_history(Scene(1, [(Dials([], [[], [], []]), [])]), [2]), True)


class Errors(Case):
    def test_methods(self):
        for wrong in NO_READERS:
            self.refuses(InvalidReader, wrong, SMALL.board, wrong, 2)
            self.refuses(InvalidReader, wrong, SMALL.board, wrong, None)
            self.refuses(InvalidReader, wrong, SMALL.sign, wrong, None, None)
        for wrong in NO_INTEGERS + [0, 7, -1]:
            for reader in (0, 1):
                self.refuses(InvalidSize, wrong, SMALL.board, reader, wrong)
            self.refuses(InvalidSize, wrong, THREE.board, 2, wrong)
        for wrong in NO_INTEGERS + [-1, 2]:
            self.refuses(InvalidAsk, wrong, SMALL.sign, 0, wrong, [0, 0, 0])
            self.refuses(InvalidAsk, wrong, SMALL.sign, 1, wrong, None)
        for wrong in NO_HISTORIES:
            self.refuses(InvalidHistory, wrong, SMALL.sign, 1, 0, wrong)

    def test_functions(self):
        for wrong in NO_READERS:
            self.refuses(InvalidReader, wrong, bag_at, SMALL, wrong, None, None)
            self.refuses(InvalidReader, wrong, with_ask, SMALL, wrong, None)
            self.refuses(InvalidReader, wrong, without_ask, SMALL, wrong, None)
        for wrong in NO_INTEGERS + [-1, 2]:
            self.refuses(InvalidAsk, wrong, bag_at, SMALL, 0, wrong, None)
            self.refuses(InvalidAsk, wrong, without_ask, SMALL, 0, wrong)
        for wrong in NO_HISTORIES:
            self.refuses(InvalidHistory, wrong, bag_at, SMALL, 0, 0, wrong)
            self.refuses(InvalidHistory, wrong, signs_of, SMALL, wrong)
            self.refuses(InvalidHistory, wrong, alike, SMALL, wrong, [0, 0, 0])
            self.refuses(InvalidHistory, wrong, alike, SMALL, wrong, None)
            self.refuses(InvalidHistory, wrong, alike, SMALL, [0, 0, 0], wrong)

    def test_true_is_no_size_of_a_board(self):
        single = Scene(2, [(count_board(2, 1), [[0]])])
        for wrong in NO_INTEGERS + [0, 2, 7]:
            self.refuses(InvalidSize, wrong, single.board, 0, wrong)
        self.assertEqual(single.board(0, 1), count_board(2, 1))

    def test_no_asks(self):
        scene = Scene(2, [(COUNTS, []), (REST, [[0]])])
        self.refuses(InvalidAsk, 0, bag_at, scene, 0, 0, [0, 0])
        self.refuses(InvalidAsk, 0, without_ask, scene, 0, 0)
        self.assertEqual(signs_of(scene, [1, 0]), [(), ((1,),)])


class Asks(Case):
    def test_one_ask_more(self):
        before = Scene(THREE.stints, THREE.readers)
        for reader, lot in ((0, [0, 3]), (0, (0, 1)), (1, []), (1, [1, 2, 3]), (2, [3]), (2, ())):
            found = with_ask(THREE, reader, lot)
            self.assertIs(type(found), Scene)
            asks = [each for _, each in THREE.readers]
            asks[reader] = asks[reader] + (tuple(lot),)
            self.assertEqual(found, Scene(4, list(zip([source for source, _ in THREE.readers], asks))))
            self.assertEqual(THREE, before)

    def test_one_ask_less(self):
        for scene in random_scenes(97, 40):
            before = Scene(scene.stints, scene.readers)
            for reader, (source, asks) in enumerate(scene.readers):
                for ask in range(len(asks)):
                    found = without_ask(scene, reader, ask)
                    self.assertEqual(found.readers[reader], (source, asks[:ask] + asks[ask + 1:]))
                    self.assertEqual(found.readers[:reader] + found.readers[reader + 1:],
                                     scene.readers[:reader] + scene.readers[reader + 1:])
                    self.assertEqual(found.stints, scene.stints)
                    self.assertEqual(scene, before)

    def test_wrong_lots(self):
        for wrong in NO_LISTS + [0, [4], [-1], [0, 0], [1, 0], [True], [0, None], (1, 0), [0, 1, 2, 3, 4], [[0]], ["0"]]:
            for reader in (0, 1, 2):
                self.refuses(InvalidLot, wrong, with_ask, THREE, reader, wrong)
        for wrong in ([], [0], [0, 1, 2], (), (3,)):
            self.refuses(InvalidLot, wrong, with_ask, THREE, 0, wrong)
        wide = Scene(12, [(REST, [])])
        wrong = list(range(7))
        self.refuses(InvalidLot, wrong, with_ask, wide, 0, wrong)

    def test_sixty_asks(self):
        scene = Scene(3, [(REST, [[0]] * 59), (COUNTS, [[0, 1]] * 60)])
        found = with_ask(scene, 0, [1])
        self.assertEqual(found.readers[0][1], ((0,),) * 59 + ((1,),))
        self.fails(TooMany, {"count": 61}, with_ask, found, 0, [1])
        self.fails(TooMany, {"count": 61}, with_ask, scene, 1, [0, 1])
        wrong = [0]
        self.refuses(InvalidLot, wrong, with_ask, scene, 1, wrong)
        self.assertEqual(len(without_ask(found, 0, 0).readers[0][1]), 59)


if __name__ == "__main__":
    unittest.main()
