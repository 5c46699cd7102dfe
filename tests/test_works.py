import unittest
from itertools import combinations, product

from oneforone.dials import Dials
from oneforone.errors import InvalidQueues, InvalidSize
from oneforone.links import strands
from oneforone.scenes import Scene
from oneforone.works import first_works, never_first
from tests.cases import NO_INTEGERS, NO_LISTS, Case

NO_QUEUES = NO_LISTS + [[], [0], [7], [-1], [True], [1, None], [1, "1"], [[1]], [1, False], [1] * 5, [6, 6, 1], [4, 4, 4, 1], (7,), (6, 7)]


def all_queues():
    return [list(queues) for many in range(1, 5) for queues in product(range(1, 7), repeat=many) if sum(queues) <= 12]


def slow_works(queues, size):
    """By the words: each work has with it all works ahead of it in its queue."""
    ahead = {}
    begun = 0
    for many in queues:
        for work in range(begun, begun + many):
            ahead[work] = set(range(begun, work))
        begun += many
    return [list(lot) for lot in combinations(range(begun), size) if all(ahead[work] <= set(lot) for work in lot)]


class Works(Case):
    def test_against_a_search(self):
        told = set()
        for queues in all_queues()[::3] + [[6, 6], [3, 3, 3, 3], [1], [12 - 6, 5, 1]]:
            for size in range(7):
                lots = slow_works(queues, size)
                told.add((len(lots) == 0, size))
                found = first_works(queues, size)
                self.assertEqual(found, lots)
                self.assertTrue(type(found) is list and all(type(lot) is list for lot in found))
                in_some = {work for lot in lots for work in lot}
                never = never_first(queues, size)
                self.assertEqual(never, [work for work in range(sum(queues)) if work not in in_some])
                self.assertEqual([first_works(tuple(queues), size), never_first(tuple(queues), size)], [found, never])
        self.assertTrue({(False, 0), (False, 6), (True, 6), (True, 2)} <= told)

    def test_sizes(self):
        self.assertEqual([first_works([1, 2], 0), never_first([1, 2], 0)], [[[]], [0, 1, 2]])
        self.assertEqual([first_works([1, 2], 3), never_first([1, 2], 3)], [[[0, 1, 2]], []])
        self.assertEqual([first_works([1, 2], 4), never_first([1, 2], 4)], [[], [0, 1, 2]])
        self.assertEqual([first_works([1], 1), never_first([1], 1)], [[[0]], []])
        self.assertEqual(len(first_works([3, 3, 3, 3], 6)), len(slow_works([3, 3, 3, 3], 6)))

    def test_one_strand(self):
        told = set()
        for queues in all_queues():
            for size in range(1, 7):
                if len(queues) < 3 or min(queues) < size:
                    continue
                told.add((len(queues), size))
                lots = first_works(queues, size)
                scene = Scene(sum(queues), [(Dials([0], [[0], [1]]), lots)])
                self.assertEqual(strands(scene, 0, size), [sorted({work for lot in lots for work in lot})])
        self.assertTrue({(3, 1), (3, 4), (4, 3)} <= told)

    def test_wrong_arguments(self):
        for function in (first_works, never_first):
            for wrong in NO_QUEUES:
                self.refuses(InvalidQueues, wrong, function, wrong, None)
            for wrong in NO_INTEGERS + [7, -1]:
                self.refuses(InvalidSize, wrong, function, [1, 2], wrong)


if __name__ == "__main__":
    unittest.main()
