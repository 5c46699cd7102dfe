import random
import unittest
from itertools import combinations

from oneforone.errors import InvalidPrices, InvalidSet
from oneforone.failures import NoRing, StuckTie
from oneforone.openings import cheapest_openings, closed_ring, is_cheapest_openings, other_fillings, tells_all
from oneforone.webs import Web
from tests import nets
from tests.cases import NO_LISTS, Case
from tests.nets import BARE, EIGHT, LARGE, SMALL, STUCK, TWO, random_webs
from tests.walks import any_values, is_int, is_listed, mutants

# For three ties.
NO_SETS = NO_LISTS + [[True], [0, True], [3], [-1], [0, 0], [1, 0], [None], ["0"], [[0]], (3,), [0, 1, 2, 3]]
NO_PRICES = NO_LISTS + [[], [1, 1], [1] * 4, [1001, 0, 0], [0, 0, -1], [True, 0, 0], [0, False, 0], [None, 0, 0], ["1", 0, 0],
                        [[1], 0, 0], (1001, 0, 0)]


def all_ties(web):
    return [list(chosen) for size in range(len(web) + 1) for chosen in combinations(range(len(web)), size)]


def is_closed_ring(web, without, value):
    """By the words of [153]."""
    if not is_listed(value) or len(value) < 2:
        return False
    ends = []
    for step in value:
        if type(step) is not tuple or len(step) != 2 or not is_int(step[0]) or not is_int(step[1]):
            return False
        if not 0 <= step[0] < len(web) or step[1] not in (1, -1) or step[0] in without:
            return False
        ends.append(web.ties[step[0]][:2][::step[1]])
    return len({tie for tie, _ in value}) == len(value) and all(
        ends[at - 1][1] == ends[at][0] for at in range(len(ends)))


def least_sum(web, prices):
    return min(sum(prices[tie] for tie in ties) for ties in all_ties(web) if not nets.has_closed_ring(web, ties))


def is_right(web, prices, value):
    if not is_listed(value) or not all(is_int(tie) for tie in value) or list(value) not in all_ties(web):
        return False
    return not nets.has_closed_ring(web, value) and sum(prices[tie] for tie in value) == least_sum(web, prices)


class Told(Case):
    def test_by_the_words(self):
        told = set()
        for web in random_webs(181, 60) + [EIGHT, TWO, BARE, STUCK]:
            for ties in all_ties(web):
                ring = closed_ring(web, ties)
                told.add(ring and len(ring))
                self.assertIs(tells_all(web, ties), not nets.has_closed_ring(web, ties))
                self.assertEqual(ring is None, tells_all(web, tuple(ties)))
                if ring is not None:
                    self.assertIs(type(ring), list)
                    self.assertTrue(is_closed_ring(web, ties, ring))
                    self.assertEqual(closed_ring(web, tuple(ties)), ring)
        self.assertTrue({None, 2, 3, 4} <= told)

    def test_none_all_and_one_less_than_needed(self):
        three = Web(3, [(0, 1, 0, 1)] * 2 + [(1, 2, 0, 1)] * 2 + [(0, 2, 0, 1)])
        for ties, answer in (([], False), ([0, 1, 2, 3, 4], True), ([0, 2], False), ([0, 2, 4], True), ([1, 3, 4], True),
                             ([0, 1, 2], True), ([0, 1], False)):
            self.assertIs(tells_all(three, ties), answer)
        self.assertEqual([tells_all(BARE, []), closed_ring(BARE, [])], [True, None])
        self.assertTrue(is_closed_ring(TWO, [], closed_ring(TWO, [])))
        self.assertEqual(len(closed_ring(TWO, [])), 2)

    def test_wrong_sets(self):
        for wrong in NO_SETS:
            for function in (tells_all, closed_ring, other_fillings):
                self.refuses(InvalidSet, wrong, function, SMALL, wrong)
                self.refuses(InvalidSet, wrong, function, Web(3, [(0, 1, 0, 0), (0, 1, 0, 0), (0, 1, 0, 1)]), wrong)
        self.refuses(InvalidSet, (0,), tells_all, BARE, (0,))


class OtherFillings(Case):
    def test_by_the_words(self):
        told = set()
        for web in random_webs(182, 120, most_fillings=200) + [EIGHT, TWO, BARE]:
            stuck = [tie for tie, (_, _, least, most) in enumerate(web.ties) if least == most]
            for ties in all_ties(web):
                told.add((len(stuck) > 0, nets.has_closed_ring(web, ties)))
                if stuck:
                    self.fails(StuckTie, {"tie": stuck[0]}, other_fillings, web, ties)
                    continue
                pairs = [(one, other) for same in nets.by_signs(web).values() for one in same for other in same
                         if one != other and all(one[tie] == other[tie] for tie in ties)]
                self.assertEqual(len(pairs) > 0, nets.has_closed_ring(web, ties))
                if not pairs:
                    self.fails(NoRing, {}, other_fillings, web, ties)
                    continue
                found = other_fillings(web, ties)
                self.assertEqual([type(each) for each in (found,) + found], [tuple] * 3)
                self.assertIn(found, pairs)
                self.assertEqual(other_fillings(web, tuple(ties)), found)
        self.assertEqual(len(told), 4)

    def test_errors_in_order(self):
        web = Web(2, [(0, 1, 0, 1), (0, 1, 3, 3), (0, 1, 2, 2)])
        for ties in ([], [1], [1, 2], [0, 1, 2], [2], [0]):
            self.fails(StuckTie, {"tie": 1}, other_fillings, web, ties)
        self.fails(NoRing, {}, other_fillings, BARE, [])
        self.fails(NoRing, {}, other_fillings, SMALL, [0])


class Cheapest(Case):
    def test_against_a_search(self):
        told = set()
        rolls = random.Random(183)
        for web in random_webs(184, 100) + [EIGHT, TWO, BARE, STUCK]:
            for most in (0, 1, 3, 1000):
                prices = [rolls.choice([0, most, rolls.randint(0, most)]) for _ in range(len(web))]
                found = cheapest_openings(web, prices)
                self.assertIs(type(found), list)
                self.assertTrue(is_right(web, prices, found))
                self.assertIs(is_cheapest_openings(web, prices, found), True)
                self.assertIs(is_cheapest_openings(web, tuple(prices), tuple(found)), True)
                self.assertEqual(cheapest_openings(web, tuple(prices)), found)
                told.add(len(found))
        self.assertTrue({0, 1, 2, 3} <= told)

    def test_large_webs(self):
        rolls = random.Random(185)
        for web in [LARGE] + [nets.large_web(rolls) for _ in range(10)]:
            prices = [rolls.randint(0, 1000) for _ in range(16)]
            found = cheapest_openings(web, prices)
            self.assertFalse(nets.has_closed_ring(web, found))
            self.assertIs(is_cheapest_openings(web, prices, found), True)

    def test_judge(self):
        told = set()
        rolls = random.Random(186)
        for web in random_webs(187, 40) + [EIGHT, TWO, BARE]:
            prices = [rolls.randint(0, 2) for _ in range(len(web))]
            values = all_ties(web) + [[1, 0], [0, 0], [len(web)], [-1], [True], [0, True], (0,)]
            self.judges(lambda value: is_cheapest_openings(web, prices, value), lambda value: is_right(web, prices, value), values)
            told |= {is_cheapest_openings(web, prices, value) for value in values}
        self.assertEqual(told, {True, False})
        self.judges(lambda value: is_cheapest_openings(SMALL, [3, 1, 2], value), lambda value: is_right(SMALL, [3, 1, 2], value),
                    any_values() + list(mutants([1])) + list(mutants([0, 1, 2])))
        # Ties of the price 0 may be opened, too.
        self.assertIs(is_cheapest_openings(SMALL, [1, 0, 0], [1, 2]), True)
        self.assertIs(is_cheapest_openings(SMALL, [1, 0, 0], [0]), False)
        self.assertIs(is_cheapest_openings(SMALL, [1, 0, 0], []), False)

    def test_wrong_prices(self):
        for wrong in NO_PRICES:
            self.refuses(InvalidPrices, wrong, cheapest_openings, SMALL, wrong)
            self.refuses(InvalidPrices, wrong, is_cheapest_openings, SMALL, wrong, [1])


if __name__ == "__main__":
    unittest.main()
