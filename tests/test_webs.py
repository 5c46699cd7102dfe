import random
import unittest
from itertools import product

from oneforone.errors import InvalidFilling, InvalidPlaces, InvalidTies
from oneforone.webs import Web, alike_fillings, is_filling, is_flow, shown
from tests import nets
from tests.cases import NO_INTEGERS, NO_LISTS, Case
from tests.nets import BARE, LARGE, SMALL, STUCK, TWO, random_webs
from tests.walks import LONG, any_values, mutants

NO_TIES = [None, True, 0, "0101", [0, 1, 0, 2], (), (0, 1, 0), (0, 1, 0, 2, 3), (0, 0, 0, 2), (1, 0, 0, 2), (0, 3, 0, 2),
           (-1, 1, 0, 2), (0, 1, 2, 0), (0, 1, -101, 0), (0, 1, 0, 101), (0, 1, 101, 102), (False, 1, 0, 2), (0, True, 0, 2),
           (0, 1, False, 2), (0, 1, 0, True), (0, 1, None, 2), (0, "1", 0, 2), ((0, 1), 1, 0, 2)]
NO_FILLINGS = NO_LISTS + [[], [0], [0, 0], [0, 0, 0, 0], [3, 0, 0], [0, 0, 2], [-1, 0, 0], [True, 0, 0], [0, 0, False],
                          [None, 0, 0], ["0", 0, 0], [[0], 0, 0], (3, 0, 0), {"a": 1}]


class Webs(Case):
    def test_attributes(self):
        web = Web(3, [(0, 1, -100, 100), (0, 2, 5, 5)])
        self.assertEqual([web.places, web.ties, len(web)], [3, ((0, 1, -100, 100), (0, 2, 5, 5)), 2])
        self.assertEqual([type(web.ties), len(BARE), len(LARGE)], [tuple, 0, 16])
        self.assertEqual(Web(2, ()).ties, ())
        self.assertEqual(Web(12, [(0, 1, 1, 1)] * 16).ties, ((0, 1, 1, 1),) * 16)

    def test_equality(self):
        ties = [(0, 1, 0, 1), (1, 2, 0, 1)]
        self.assertTrue(Web(3, ties) == Web(3, tuple(ties)))
        for other in (Web(4, ties), Web(3, ties[::-1]), Web(3, ties[:1]), Web(3, [(0, 1, 0, 1), (1, 2, 0, 2)]), 3, None, ties,
                      (3, tuple(ties))):
            self.assertFalse(Web(3, ties) == other)
            self.assertTrue(Web(3, ties) != other)

    def test_the_list_is_not_kept(self):
        ties = [(0, 1, 0, 1)]
        web = Web(2, ties)
        ties.append((0, 1, 0, 3))
        self.assertEqual(web.ties, ((0, 1, 0, 1),))

    def test_wrong_arguments(self):
        for wrong in NO_INTEGERS + [0, 1, 13, -2]:
            self.refuses(InvalidPlaces, wrong, Web, wrong, None)
        for wrong in NO_LISTS + [[tie] for tie in NO_TIES] + [[(0, 1, 0, 1), tie] for tie in NO_TIES] + [[(0, 1, 0, 1)] * 17]:
            self.refuses(InvalidTies, wrong, Web, 3, wrong)
        self.refuses(InvalidTies, wrong, Web, 2, wrong)
        self.assertEqual(len(Web(3, [(0, 2, 0, 1)])), 1)


class Fillings(Case):
    def test_judge(self):
        for web in random_webs(141, 30, most_fillings=60) + [STUCK]:
            values = any_values() + list(product(range(-1, 4), repeat=min(len(web), 4))) + [[]]
            values += list(mutants(list(nets.fillings(web)[0])))
            self.judges(lambda value: is_filling(web, value), lambda value: nets.is_filling(web, value), values)
        for wrong in NO_FILLINGS:
            self.assertIs(is_filling(SMALL, wrong), False)
        self.assertIs(is_filling(BARE, []), True)
        self.assertIs(is_filling(TWO, (-3, 4)), True)
        self.assertIs(is_filling(TWO, (-4, 4)), False)
        self.assertIs(is_filling(TWO, (-3, 5)), False)

    def test_shown_and_alike(self):
        told = set()
        for web in random_webs(7, 40, most_fillings=40):
            for one in nets.fillings(web):
                found = shown(web, one)
                self.assertEqual([found, type(found)], [nets.shown(web, one), tuple])
                self.assertEqual(shown(web, list(one)), found)
                for other in nets.fillings(web):
                    self.assertIs(alike_fillings(web, one, list(other)), found == nets.shown(web, other))
                    told.add((one == other, alike_fillings(web, one, other)))
                    flow = [a - b for a, b in zip(one, other)]
                    self.assertIs(is_flow(web, flow), found == nets.shown(web, other))
        self.assertEqual(told, {(True, True), (False, True), (False, False)})

    def test_no_ties_and_many(self):
        self.assertEqual([shown(BARE, []), shown(Web(12, []), ())], [(0,), (0,) * 11])
        rolls = random.Random(12)
        for web in [LARGE, STUCK] + [nets.large_web(rolls) for _ in range(20)]:
            filling = nets.random_filling(rolls, web)
            self.assertEqual(shown(web, filling), nets.shown(web, filling))
            self.assertIs(alike_fillings(web, filling, tuple(filling)), True)

    def test_wrong_arguments(self):
        right = [1, 1, 0]
        for wrong in NO_FILLINGS:
            self.refuses(InvalidFilling, wrong, shown, SMALL, wrong)
            self.refuses(InvalidFilling, wrong, alike_fillings, SMALL, wrong, None)
            self.refuses(InvalidFilling, wrong, alike_fillings, SMALL, right, wrong)


class Told(Case):
    def test_all_fillings_are_told_exactly_without_a_closed_ring(self):
        told = set()
        for web in random_webs(143, 120, most_fillings=100) + [Web(3, [(0, 1, 0, 1), (0, 1, 0, 1)]), Web(3, [(0, 1, 0, 1)])]:
            if all(least < most for _, _, least, most in web.ties):
                unlike = all(len(each) == 1 for each in nets.by_signs(web).values())
                told.add((unlike, len(web) > 2))
                self.assertEqual(unlike, not nets.has_closed_ring(web))
        self.assertEqual(len(told), 4)


class Flows(Case):
    def test_by_the_words(self):
        told = set()
        for web in random_webs(142, 40):
            for value in list(product(range(-1, 2), repeat=min(len(web), 6)))[:400]:
                told.add(is_flow(web, value))
                self.assertIs(is_flow(web, value), nets.is_flow(web, value))
        self.assertEqual(told, {True, False})

    def test_large_numbers(self):
        self.assertIs(is_flow(SMALL, [LONG, -LONG, -LONG]), True)
        self.assertIs(is_flow(SMALL, (LONG, -LONG, 1 - LONG)), False)
        self.assertIs(is_flow(SMALL, (LONG, 0, 0)), False)

    def test_any_values(self):
        for web in (SMALL, BARE, TWO):
            values = any_values() + list(mutants([1, -1, -1])) + list(mutants((1, -1)))
            self.judges(lambda value: is_flow(web, value), lambda value: nets.is_flow(web, value), values)
        self.assertIs(is_flow(BARE, ()), True)
        self.assertIs(is_flow(TWO, [True, -1]), False)


if __name__ == "__main__":
    unittest.main()
