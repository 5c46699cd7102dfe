import random
import unittest
from itertools import product

from oneforone.errors import InvalidModulus, InvalidPrices, InvalidRests, InvalidTie
from oneforone.held import held
from oneforone.rest_webs import (cheapest_rest_held, count_rests, firm_ties, is_cheapest_rest_held, parts, rest_shown,
                                 rest_twin)
from oneforone.webs import Web
from tests import nets
from tests.cases import NO_INTEGERS, NO_LISTS, Case
from tests.nets import BARE, EIGHT, LARGE, SMALL, TWO, random_webs
from tests.test_held import NO_PRICES, all_cuts, random_prices
from tests.walks import any_values, is_int, is_listed, mutants

LINE = Web(4, [(0, 1, 0, 0), (0, 1, 0, 0), (1, 3, 0, 0)])
NO_RESTS = NO_LISTS + [[], [0, 0], [0] * 4, [3, 0, 0], [0, 0, -1], [True, 0, 0], [0, False, 0], [None, 0, 0], ["0", 0, 0],
                       [[0], 0, 0], (0, 0, 3)]


def slow_shown(web, values, modulus):
    return tuple(total - modulus * (total // modulus) for total in nets.shown(web, values))


def slow_parts(web):
    return len({tuple(sorted(nets.joined(web, place))) for place in range(web.places)})


def opens(web, tie, cuts):
    """Whether these cuts let the tie be open, by the words of the point and the held web."""
    if len(cuts) == web.places - 1:
        return True
    other, kept = held(web, cuts)
    return tie not in kept or nets.in_closed_ring(other, kept.index(tie))


def is_right(web, tie, prices, value):
    if type(value) is not tuple or len(value) != 2:
        return False
    cuts, heights = value
    if not is_listed(cuts) or not all(is_int(cut) for cut in cuts) or list(cuts) not in all_cuts(web):
        return False
    if not is_listed(heights) or len(heights) != web.places or not all(is_int(height) for height in heights):
        return False
    price = sum(prices[cut] for cut in cuts)
    if any(heights[start] != heights[end] for at, (start, end, _, _) in enumerate(web.ties) if at != tie):
        return False
    if any(abs(heights[cut] - heights[cut + 1]) > prices[cut] for cut in range(web.places - 1)):
        return False
    if heights[web.ties[tie][1]] != 0 or heights[web.ties[tie][0]] != price or not opens(web, tie, cuts):
        return False
    return price == min(sum(prices[cut] for cut in each) for each in all_cuts(web) if opens(web, tie, each))


class Rests(Case):
    def test_shown(self):
        rolls = random.Random(153)
        for web in random_webs(161, 40) + [LARGE, LINE]:
            for modulus in (2, 3, 20):
                values = [rolls.randrange(modulus) for _ in range(len(web))]
                found = rest_shown(web, values, modulus)
                self.assertEqual([found, type(found)], [slow_shown(web, values, modulus), tuple])
                self.assertEqual(rest_shown(web, tuple(values), modulus), found)
        # The least and the most of a tie do not count.
        self.assertEqual(rest_shown(LINE, [19, 19, 7], 20), (18, 7, 7))
        self.assertEqual(rest_shown(BARE, [], 2), (0,))

    def test_firm_ties_and_parts(self):
        told = set()
        for web in random_webs(162, 120) + [LARGE, LINE, EIGHT, TWO, BARE]:
            found = firm_ties(web)
            self.assertEqual(found, [tie for tie in range(len(web)) if not nets.in_closed_ring(web, tie)])
            self.assertEqual(parts(web), slow_parts(web))
            told |= {min(len(found), 2), ("parts", parts(web))}
        self.assertTrue({0, 1, 2, ("parts", 1), ("parts", 2), ("parts", 3)} <= told)
        self.assertEqual([firm_ties(BARE), parts(BARE), parts(Web(12, []))], [[], 2, 12])
        self.assertEqual([firm_ties(TWO), firm_ties(Web(2, [(0, 1, 0, 0)]))], [[], [0]])
        self.assertEqual(firm_ties(Web(3, [(0, 1, 0, 0)] * 16)), [])

    def test_counts_against_a_search(self):
        for web in random_webs(163, 60, most_ties=5) + [LINE, TWO, BARE]:
            for modulus in (2, 3, 4):
                if len(web) > 5 or modulus ** len(web) > 250:
                    continue
                by_signs = {}
                for values in product(range(modulus), repeat=len(web)):
                    by_signs.setdefault(slow_shown(web, values, modulus), []).append(values)
                count = count_rests(web, modulus)
                self.assertEqual({len(each) for each in by_signs.values()}, {count})
                for each in by_signs.values():
                    for tie in range(len(web)):
                        firm = not nets.in_closed_ring(web, tie)
                        self.assertEqual(len({values[tie] for values in each}) == 1, firm)
        self.assertEqual(count_rests(LARGE, 20), 20 ** (16 - 12 + 1))
        self.assertEqual(count_rests(Web(2, [(0, 1, 0, 0)] * 16), 20), 20 ** 15)

    def test_twins(self):
        told = set()
        rolls = random.Random(164)
        for web in random_webs(165, 80) + [LARGE, EIGHT, TWO]:
            for modulus in (2, 3, 4, 20):
                values = [rolls.choice([0, modulus - 1, rolls.randrange(modulus)]) for _ in range(len(web))]
                for tie in range(len(web)):
                    found = rest_twin(web, values, modulus, tie)
                    firm = not nets.in_closed_ring(web, tie)
                    told.add((modulus, firm))
                    self.assertEqual(found is None, firm)
                    if not firm:
                        self.assertIs(type(found), tuple)
                        self.assertEqual(len(found), len(web))
                        self.assertTrue(all(is_int(value) and 0 <= value < modulus for value in found))
                        self.assertNotEqual(found[tie], values[tie])
                        self.assertEqual(slow_shown(web, found, modulus), slow_shown(web, values, modulus))
                        self.assertEqual(rest_twin(web, tuple(values), modulus, tie), found)
        self.assertEqual(told, set(product((2, 3, 4, 20), (True, False))))

    def test_wrong_arguments(self):
        for function, more in ((rest_shown, ()), (rest_twin, (None,))):
            for wrong in NO_INTEGERS + [0, 1, 21, -2]:
                self.refuses(InvalidModulus, wrong, function, LINE, None, wrong, *more)
            for wrong in NO_RESTS:
                self.refuses(InvalidRests, wrong, function, LINE, wrong, 3, *more)
            self.refuses(InvalidRests, NO_RESTS, function, LINE, NO_RESTS, 20, *more)
            wrong = [0, 2, 0]
            self.refuses(InvalidRests, wrong, function, LINE, wrong, 2, *more)
        for wrong in NO_INTEGERS + [0, 1, 21, -2]:
            self.refuses(InvalidModulus, wrong, count_rests, LINE, wrong)
        for wrong in NO_INTEGERS + [3, -1]:
            self.refuses(InvalidTie, wrong, rest_twin, LINE, [0, 0, 0], 3, wrong)


class CheapestHeld(Case):
    def test_against_a_search(self):
        told = set()
        rolls = random.Random(166)
        for web in random_webs(167, 80) + [LINE, EIGHT, TWO]:
            for tie in range(len(web)):
                prices = rolls.choice([None, [0] * (web.places - 1), random_prices(rolls, web)])
                given = [1] * (web.places - 1) if prices is None else prices
                found = cheapest_rest_held(web, tie, prices)
                self.assertEqual([type(found), type(found[0]), type(found[1])], [tuple, list, tuple])
                self.assertTrue(is_right(web, tie, given, found))
                self.assertIs(is_cheapest_rest_held(web, tie, found, prices), True)
                self.assertIs(is_cheapest_rest_held(web, tie, (tuple(found[0]), list(found[1])), prices), True)
                if prices is None:
                    self.assertEqual(cheapest_rest_held(web, tie), found)
                    self.assertIs(is_cheapest_rest_held(web, tie, found), True)
                    self.assertEqual(cheapest_rest_held(web, tie, given), found)
                firm = not nets.in_closed_ring(web, tie)
                told.add((firm, len(found[0])))
        self.assertTrue({(False, 0), (True, 1), (True, 2)} <= told)

    def test_all_cuts_and_ties_that_are_not_kept(self):
        self.assertEqual(cheapest_rest_held(Web(2, [(0, 1, 0, 0)]), 0), ([0], (1, 0)))
        self.assertEqual(cheapest_rest_held(Web(4, [(0, 3, 0, 0)]), 0, [5, 0, 7]), ([0, 1, 2], (12, 7, 7, 0)))
        self.assertEqual(cheapest_rest_held(Web(4, [(1, 2, 0, 0), (0, 3, 0, 0)]), 0, [5, 11, 5])[0], [0, 2])
        self.assertEqual(cheapest_rest_held(Web(4, [(1, 2, 0, 0), (0, 3, 0, 0)]), 0, [5, 9, 5])[0], [1])
        self.assertEqual(cheapest_rest_held(TWO, 0, [1000]), ([], (0, 0)))

    def test_judge(self):
        told = set()
        rolls = random.Random(168)
        for web in random_webs(169, 20, most_places=4, most_ties=4):
            for tie in range(len(web)):
                prices = [rolls.randint(0, 2) for _ in range(web.places - 1)]
                values = list(product(all_cuts(web), product(range(-1, 4), repeat=web.places)))
                self.judges(lambda value: is_cheapest_rest_held(web, tie, value, prices),
                            lambda value: is_right(web, tie, prices, value), values[:1500] + rolls.sample(values, min(len(values), 200)))
                told |= {is_cheapest_rest_held(web, tie, value, prices) for value in values}
        self.assertEqual(told, {True, False})
        for tie, prices in ((2, [9, 1, 4]), (0, [1, 1, 1])):
            right = cheapest_rest_held(LINE, tie, prices)
            values = any_values() + list(mutants(right)) + [list(right), right[:1], right + (None,), right[::-1]]
            self.judges(lambda value: is_cheapest_rest_held(LINE, tie, value, prices),
                        lambda value: is_right(LINE, tie, prices, value), values)

    def test_each_condition_broken_alone(self):
        web, prices = Web(4, [(0, 1, 0, 0), (0, 1, 0, 0), (1, 3, 0, 0), (0, 2, 0, 0), (1, 2, 0, 0)]), [4, 9, 5]
        self.assertEqual(cheapest_rest_held(web, 2, prices), ([2], (5, 5, 5, 0)))
        for value, answer in ((([2], (5, 5, 5, 0)), True), (((2,), [5, 5, 5, 0]), True), (([0, 2], (5, 5, 5, 0)), False),
                              (([2], (5, 5, 4, 0)), False), (([2], (6, 5, 5, 0)), False), (([2], (6, 6, 6, 1)), False),
                              (([2], (4, 4, 4, 0)), False), (([], (0, 0, 0, 0)), False), (([1], (9, 9, 9, 0)), False),
                              (([2], (5, 5, 5)), False), (([2], (5, 5, 5, False)), False), (([2], None), False)):
            self.assertEqual(is_right(web, 2, prices, value), answer, value)
            self.assertIs(is_cheapest_rest_held(web, 2, value, prices), answer)
        # Cuts of the right price behind which the tie is firm.
        self.assertIs(is_cheapest_rest_held(web, 2, ([0], (5, 5, 5, 0)), [5, 9, 5]), False)
        # Heights below 0 and above the sum, at places that no other tie joins.
        far = Web(4, [(1, 2, 0, 0)])
        for heights, answer in (((9, 4, 0, -9), True), ((-5, 4, 0, 9), True), ((14, 4, 0, 0), False), ((0, 4, 0, -10), False)):
            self.assertIs(is_cheapest_rest_held(far, 0, ([1], heights), [9, 4, 9]), answer)

    def test_large_webs(self):
        rolls = random.Random(170)
        for web in [LARGE] + [nets.large_web(rolls) for _ in range(10)]:
            for tie in range(16):
                prices = random_prices(rolls, web)
                found = cheapest_rest_held(web, tie, prices)
                self.assertIs(is_cheapest_rest_held(web, tie, found, prices), True)
                self.assertTrue(opens(web, tie, found[0]))

    def test_wrong_arguments(self):
        for function, more in ((cheapest_rest_held, ()), (is_cheapest_rest_held, (None,))):
            for wrong in NO_INTEGERS + [3, -1]:
                self.refuses(InvalidTie, wrong, function, SMALL, wrong, *more, 3)
            for wrong in NO_PRICES:
                self.refuses(InvalidPrices, wrong, function, SMALL, 0, *more, wrong)
            self.refuses(InvalidTie, 0, function, BARE, 0, *more, None)


if __name__ == "__main__":
    unittest.main()
