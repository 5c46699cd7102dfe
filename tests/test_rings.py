import random
import unittest
from itertools import permutations, product

from oneforone.errors import InvalidFilling, InvalidRing, InvalidTie
from oneforone.rings import fall, is_ring, ringed, rise
from oneforone.webs import Web
from tests import nets
from tests.cases import NO_INTEGERS, Case
from tests.nets import BARE, EIGHT, LARGE, SMALL, TWO, webs_and_fillings
from tests.test_webs import NO_FILLINGS
from tests.walks import any_values, mutants

WAYS = ((1, rise), (-1, fall))


class Turns(Case):
    def right(self, web, filling, tie, way, found):
        """What it is, by the words."""
        self.assertIs(type(found), tuple)
        bound = web.ties[tie][3] if way == 1 else web.ties[tie][2]
        if filling[tie] == bound:
            self.assertEqual(found, ("full",))
            return "full"
        places = nets.shut(web, filling, tie, way)
        start = web.ties[tie][0] if way == 1 else web.ties[tie][1]
        if start not in places:
            self.assertEqual(found, ("shut", sorted(places)))
            self.assertIs(type(found[1]), list)
            return "shut"
        word, ring = found
        self.assertEqual([word, ring[0], type(ring)], ["ring", (tie, way), list])
        self.assertTrue(nets.is_ring(web, filling, ring))
        self.assertIs(is_ring(web, filling, ring), True)
        return "ring"

    def test_by_the_words(self):
        told = set()
        for web, filling in webs_and_fillings(143, 200, each=3):
            for tie in range(len(web)):
                for way, function in WAYS:
                    found = function(web, filling, tie)
                    told.add((way, self.right(web, filling, tie, way, found)))
                    self.assertEqual(function(web, tuple(filling), tie), found)
        self.assertEqual(told, set(product((1, -1), ("full", "shut", "ring"))))

    def test_large_webs(self):
        rolls = random.Random(143)
        for web in [LARGE] * 5 + [nets.large_web(rolls, most) for most in (1, 2, 100) for _ in range(10)]:
            filling = nets.random_filling(rolls, web)
            for tie in range(len(web)):
                for way, function in WAYS:
                    self.right(web, filling, tie, way, function(web, filling, tie))

    def test_alike_fillings_exactly_where_rings_are(self):
        for web, filling in webs_and_fillings(8, 60, most_fillings=200):
            alike = nets.alike(web, filling)
            for tie in range(len(web)):
                self.assertEqual(rise(web, filling, tie)[0] == "ring", any(each[tie] > filling[tie] for each in alike))
                self.assertEqual(fall(web, filling, tie)[0] == "ring", any(each[tie] < filling[tie] for each in alike))

    def test_ties_between_the_same_places(self):
        self.assertEqual(rise(TWO, [0, 0], 0), ("ring", [(0, 1), (1, -1)]))
        self.assertEqual(fall(TWO, [0, 0], 0), ("ring", [(0, -1), (1, 1)]))
        self.assertEqual(rise(TWO, [0, -3], 0), ("shut", [1]))
        self.assertEqual([rise(TWO, [4, 0], 0), fall(TWO, [-3, 0], 0)], [("full",)] * 2)
        stuck = Web(2, [(0, 1, 5, 5), (0, 1, 0, 3)])
        self.assertEqual([rise(stuck, [5, 1], 0), fall(stuck, [5, 1], 0)], [("full",)] * 2)
        self.assertEqual([rise(stuck, [5, 1], 1), fall(stuck, [5, 1], 1)], [("shut", [1]), ("shut", [0])])

    def test_wrong_arguments(self):
        for _, function in WAYS:
            for wrong in NO_FILLINGS:
                self.refuses(InvalidFilling, wrong, function, SMALL, wrong, None)
            for wrong in NO_INTEGERS + [3, -1]:
                self.refuses(InvalidTie, wrong, function, SMALL, [1, 1, 0], wrong)
            self.refuses(InvalidTie, 0, function, BARE, [], 0)


class Rings(Case):
    def test_judge_by_the_words(self):
        told = set()
        for web, filling in webs_and_fillings(9, 25, most_ties=4):
            steps = list(product(range(len(web)), (1, -1)))
            values = any_values() + [list(each) for size in range(1, 4) for each in permutations(steps, size)]
            values += [list(each) for each in product(steps, repeat=2)]
            self.judges(lambda value: is_ring(web, filling, value), lambda value: nets.is_ring(web, filling, value), values)
            told |= {len(value) for value in values if nets.is_ring(web, filling, value)}
        self.assertTrue({2, 3} <= told)

    def test_a_place_twice(self):
        filling = [0, 0, 1, 0, 0, 1]
        ring = [(0, 1), (1, 1), (3, 1), (4, 1), (5, -1), (2, -1)]
        for turned in [ring[at:] + ring[:at] for at in range(6)]:
            self.assertIs(is_ring(EIGHT, filling, turned), True)
            self.assertEqual(ringed(EIGHT, filling, turned), (1, 1, 0, 1, 1, 0))
        self.assertIs(is_ring(EIGHT, filling, [(0, 1), (3, 1), (4, 1), (5, -1), (1, 1), (2, -1)]), False)

    def test_each_condition_broken_alone(self):
        filling = [1, 1, 0]
        for value, answer in (([(2, 1), (0, -1), (1, 1)], True), (((2, 1), (0, -1), (1, 1)), True), ([], False), ((), False),
                              ([[2, 1], (0, -1), (1, 1)], False), ([(2, 1, 0), (0, -1), (1, 1)], False), ([(2,)], False),
                              ([(2, True), (0, -1), (1, 1)], False), ([(2, 1), (0, -1), (True, 1)], False),
                              ([(2, 1), (False, -1), (1, 1)], False), ([(2, 1), (0, -1), (3, 1)], False),
                              ([(2, 1), (0, -1), (-2, 1)], False), ([(2, 2), (0, -1), (1, 1)], False),
                              ([(2, 1), (0, -1)], False), ([(0, -1), (2, 1), (1, 1)], False),
                              ([(0, 1), (2, -1), (1, -1)], False),
                              ([(2, 1), (0, -1), (1, 1), (2, 1), (0, -1), (1, 1)], False),
                              ([(0, 1), (0, -1)], False), ([(0, 1)], False)):
            self.assertIs(is_ring(SMALL, filling, value), answer, value)
        self.assertIs(is_ring(SMALL, [1, 2, 0], [(2, 1), (0, -1), (1, 1)]), False)
        self.assertIs(is_ring(SMALL, [0, 1, 0], [(2, 1), (0, -1), (1, 1)]), False)

    def test_ringed_by_the_words(self):
        for web, filling in webs_and_fillings(10, 60):
            for tie in range(len(web)):
                for _, function in WAYS:
                    found = function(web, filling, tie)
                    if found[0] == "ring":
                        other = ringed(web, filling, found[1])
                        ways = dict(found[1])
                        self.assertEqual(other, tuple(value + ways.get(at, 0) for at, value in enumerate(filling)))
                        self.assertIs(type(other), tuple)
                        self.assertTrue(nets.is_filling(web, other))
                        self.assertEqual(nets.shown(web, other), nets.shown(web, filling))
                        self.assertEqual(ringed(web, tuple(filling), tuple(found[1])), other)

    def test_wrong_arguments(self):
        right = [(2, 1), (0, -1), (1, 1)]
        for wrong in NO_FILLINGS:
            self.refuses(InvalidFilling, wrong, ringed, SMALL, wrong, None)
            self.refuses(InvalidFilling, wrong, is_ring, SMALL, wrong, None)
        for wrong in any_values() + list(mutants(right)):
            if not nets.is_ring(SMALL, [1, 1, 0], wrong):
                self.refuses(InvalidRing, wrong, ringed, SMALL, [1, 1, 0], wrong)


if __name__ == "__main__":
    unittest.main()
