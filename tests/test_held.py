import random
import unittest
from itertools import combinations, product

from oneforone.errors import InvalidCuts, InvalidFilling, InvalidPrices, InvalidTie
from oneforone.failures import OnePlace, StuckTie
from oneforone.held import cheapest_held, held, is_cheapest_held, open_behind
from oneforone.webs import Web
from tests import nets
from tests.cases import NO_INTEGERS, NO_LISTS, Case
from tests.nets import BARE, LARGE, SMALL, STUCK, random_webs, webs_and_fillings
from tests.test_webs import NO_FILLINGS
from tests.walks import any_values, is_int, is_listed, mutants

FOUR = Web(4, [(0, 2, 0, 2), (0, 1, 0, 2), (1, 3, 0, 2), (2, 3, 0, 2)])
# For three places.
NO_CUTS = NO_LISTS + [[True], [0, True], [2], [-1], [0, 0], [1, 0], [None], ["0"], [[0]], (2,), [0, 1, 2]]
NO_PRICES = [True, False, 3, "01", {}, {"a": 1}, [], [1], [1, 1, 1], [1001, 0], [0, -1], [True, 0], [0, False], [None, 0],
             ["1", 0], [[1], 0], (1001, 0)]


def all_cuts(web):
    return [list(chosen) for size in range(web.places) for chosen in combinations(range(web.places - 1), size)]


def slow_groups(web, cuts):
    """The places that count as one, as ascending lists."""
    return sorted(sorted(group) for group in {
        tuple(sorted(nets.reached([(cut, cut + 1) for cut in cuts] + [(cut + 1, cut) for cut in cuts], place)))
        for place in range(web.places)})


def slow_open(web, filling, cuts):
    """The open ties, by a search of all fillings."""
    left = [cut for cut in range(web.places - 1) if cut not in cuts]
    signs = nets.shown(web, filling)
    same = [other for signs_there, others in nets.by_signs(web).items() for other in others
            if all(signs_there[cut] == signs[cut] for cut in left)]
    return [tie for tie in range(len(web.ties)) if any(other[tie] != filling[tie] for other in same)]


def least_sum(web, filling, tie, prices):
    return min(sum(prices[cut] for cut in cuts) for cuts in all_cuts(web) if tie in slow_open(web, filling, cuts))


def are_heights(web, filling, tie, prices, heights, zero):
    """By the words of the point."""
    if not is_listed(heights) or len(heights) != web.places or not all(is_int(height) for height in heights):
        return False
    if heights[zero] != 0 or any(abs(heights[cut] - heights[cut + 1]) > prices[cut] for cut in range(web.places - 1)):
        return False
    return all(heights[end] <= heights[start] for start, end, step in nets.steps(web, filling) if step[0] != tie)


def is_right(web, filling, tie, prices, value):
    """Whether it is what `cheapest_held` is, by a search of all lists of cuts and the words of the point."""
    start, end, least, most = web.ties[tie]
    if least == most or type(value) is not tuple or len(value) != 3:
        return False
    cuts, rises, falls = value
    if not is_listed(cuts) or not all(is_int(cut) for cut in cuts) or list(cuts) not in all_cuts(web):
        return False
    price = sum(prices[cut] for cut in cuts)
    found = []
    for heights, bound, zero, there in ((rises, most, end, start), (falls, least, start, end)):
        if filling[tie] == bound:
            if heights is not None:
                return False
        elif not are_heights(web, filling, tie, prices, heights, zero):
            return False
        else:
            found.append(heights[there])
    if price != min(found) or tie not in slow_open(web, filling, cuts):
        return False
    return price == least_sum(web, filling, tie, prices)


def random_prices(rolls, web):
    return [rolls.choice([0, 1, 2, 1000, rolls.randint(0, 9)]) for _ in range(web.places - 1)]


class Held(Case):
    def test_by_the_words(self):
        told = set()
        for web in random_webs(151, 60) + [LARGE]:
            for cuts in all_cuts(web) if web.places < 8 else random.Random(1).sample(all_cuts(web), 50):
                groups = slow_groups(web, cuts)
                told.add(len(groups))
                if len(groups) == 1:
                    self.fails(OnePlace, {}, held, web, cuts)
                    continue
                found = held(web, cuts)
                self.assertEqual([type(found), type(found[0]), type(found[1])], [tuple, Web, list])
                number = {place: at for at, group in enumerate(groups) for place in group}
                kept = [tie for tie, (start, end, _, _) in enumerate(web.ties) if number[start] != number[end]]
                self.assertEqual(found[1], kept)
                self.assertEqual(found[0], Web(len(groups), [
                    (number[web.ties[tie][0]], number[web.ties[tie][1]]) + web.ties[tie][2:] for tie in kept]))
                self.assertEqual(held(web, tuple(cuts)), found)
        self.assertTrue({1, 2, 3, 4, 5, 6} <= told)

    def test_none_first_last_and_all(self):
        self.assertEqual(held(FOUR, []), (FOUR, [0, 1, 2, 3]))
        self.assertEqual(held(FOUR, [0])[0].ties, ((0, 1, 0, 2), (0, 2, 0, 2), (1, 2, 0, 2)))
        self.assertEqual(held(FOUR, [2])[0].ties, ((0, 2, 0, 2), (0, 1, 0, 2), (1, 2, 0, 2)))
        self.assertEqual(held(FOUR, [2])[1], [0, 1, 2])
        self.assertEqual(held(FOUR, [0, 1]), (Web(2, [(0, 1, 0, 2), (0, 1, 0, 2)]), [2, 3]))
        self.fails(OnePlace, {}, held, FOUR, (0, 1, 2))
        self.fails(OnePlace, {}, held, BARE, [0])
        self.assertEqual(held(BARE, []), (BARE, []))

    def test_wrong_cuts(self):
        for wrong in NO_CUTS:
            self.refuses(InvalidCuts, wrong, held, SMALL, wrong)
            self.refuses(InvalidCuts, wrong, open_behind, SMALL, [1, 1, 0], wrong)
        for wrong in NO_FILLINGS:
            self.refuses(InvalidFilling, wrong, open_behind, SMALL, wrong, None)


class Open(Case):
    def test_against_a_search(self):
        told = set()
        for web, filling in webs_and_fillings(152, 100, most_fillings=200) + [(STUCK, [2, 1, 2, -1, 0, 3])]:
            for cuts in all_cuts(web):
                found = open_behind(web, filling, cuts)
                self.assertEqual(found, slow_open(web, filling, cuts))
                self.assertEqual(open_behind(web, tuple(filling), tuple(cuts)), found)
                told.add((len(cuts) in (0, web.places - 1), min(len(found), 2)))
                # Ties that are not kept are open if they have two values.
                groups = slow_groups(web, cuts)
                for tie, (start, end, least, most) in enumerate(web.ties):
                    if any(start in group and end in group for group in groups):
                        self.assertEqual(tie in found, least < most)
        self.assertEqual(told, set(product((True, False), range(3))))

    def test_all_cuts(self):
        self.assertEqual(open_behind(FOUR, [0, 0, 0, 0], [0, 1, 2]), [0, 1, 2, 3])
        self.assertEqual(open_behind(STUCK, [2, 1, 2, -1, 0, 3], [0, 1, 2]), [1, 2, 4, 5])
        self.assertEqual(open_behind(BARE, [], [0]), [])


class Cheapest(Case):
    def test_against_a_search(self):
        told = set()
        rolls = random.Random(153)
        for web, filling in webs_and_fillings(154, 90, most_fillings=120) + [(STUCK, [2, 1, 2, -1, 0, 3])]:
            for tie, (_, _, least, most) in enumerate(web.ties):
                prices = rolls.choice([None, [0] * (web.places - 1), random_prices(rolls, web), random_prices(rolls, web)])
                given = [1] * (web.places - 1) if prices is None else prices
                if least == most:
                    self.fails(StuckTie, {"tie": tie}, cheapest_held, web, filling, tie, prices)
                    continue
                found = cheapest_held(web, filling, tie, prices)
                self.assertEqual([type(found), type(found[0])], [tuple, list])
                self.assertTrue(all(heights is None or type(heights) is tuple for heights in found[1:]))
                self.assertTrue(is_right(web, filling, tie, given, found))
                self.assertIs(is_cheapest_held(web, filling, tie, found, prices), True)
                listed = (tuple(found[0]),) + tuple(heights and list(heights) for heights in found[1:])
                self.assertIs(is_cheapest_held(web, filling, tie, listed, prices), True)
                if prices is None:
                    self.assertEqual(cheapest_held(web, filling, tie), found)
                    self.assertIs(is_cheapest_held(web, filling, tie, found), True)
                    self.assertEqual(cheapest_held(web, filling, tie, given), found)
                told.add((prices is None, len(found[0]), found[1] is None, found[2] is None))
        self.assertTrue({(True, 0, False, False), (False, 0, False, False), (False, 1, True, False), (False, 1, False, True),
                         (False, 2, False, True), (True, 1, False, False)} <= told)

    def test_lower_bounds_of_any_heights(self):
        rolls = random.Random(155)
        for web, filling in webs_and_fillings(156, 40, each=1, most_places=4, most_fillings=60):
            prices = [rolls.randint(0, 3) for _ in range(web.places - 1)]
            for tie, (start, end, least, most) in enumerate(web.ties):
                for heights in product(range(-2, 4), repeat=web.places):
                    up = filling[tie] < most and are_heights(web, filling, tie, prices, heights, end)
                    down = filling[tie] > least and are_heights(web, filling, tie, prices, heights, start)
                    for cuts in all_cuts(web) if up or down else []:
                        price = sum(prices[cut] for cut in cuts)
                        behind = [other[tie] for other in nets.fillings(web) if all(
                            nets.shown(web, other)[cut] == nets.shown(web, filling)[cut] for cut in range(web.places - 1)
                            if cut not in cuts)]
                        self.assertFalse(up and max(behind) > filling[tie] and price < heights[start])
                        self.assertFalse(down and min(behind) < filling[tie] and price < heights[end])

    def test_judge(self):
        told = set()
        rolls = random.Random(157)
        for web, filling in webs_and_fillings(158, 24, each=1, most_places=3, most_ties=4, most_fillings=40):
            for tie in range(len(web)):
                prices = [rolls.randint(0, 2) for _ in range(web.places - 1)]
                heights = [None] + list(product(range(-1, 3), repeat=web.places))
                values = [(rolls.choice(all_cuts(web)), rolls.choice(heights), rolls.choice(heights)) for _ in range(150)]
                cuts = all_cuts(web)
                values += [(each, one, None) for each in cuts for one in heights] + [(each, None, one) for each in cuts
                                                                                     for one in heights]
                self.judges(lambda value: is_cheapest_held(web, filling, tie, value, prices),
                            lambda value: is_right(web, filling, tie, prices, value), values)
                told |= {is_cheapest_held(web, filling, tie, value, prices) for value in values}
        self.assertEqual(told, {True, False})

    def test_judge_of_any_values_and_mutants(self):
        for filling, tie, prices in (([1, 2, 0, 1], 1, [5, 3, 4]), ([1, 1, 1, 1], 0, [2, 0, 7]), ([0, 0, 0, 0], 3, [1, 1, 1])):
            right = cheapest_held(FOUR, filling, tie, prices)
            values = any_values() + list(mutants(right)) + [list(right), right[:2], right + (None,), (right[0], right[2], right[1])]
            self.judges(lambda value: is_cheapest_held(FOUR, filling, tie, value, prices),
                        lambda value: is_right(FOUR, filling, tie, prices, value), values)

    def test_each_condition_broken_alone(self):
        filling, prices = [1, 2, 0, 1], [5, 3, 4]
        self.assertEqual(cheapest_held(FOUR, filling, 1, prices), ([1], None, (0, 3, 0, 0)))
        for value, answer in ((([1], None, (0, 3, 0, 0)), True), (((1,), None, [0, 3, 0, 0]), True), (([0], None, (0, 3, 0, 0)), False),
                              (([2], None, (0, 3, 0, 0)), False), (([], None, (0, 0, 0, 0)), False), (([1], (0, 3, 0, 0), (0, 3, 0, 0)), False),
                              (([1], None, (1, 3, 0, 0)), False), (([1], None, (0, 4, 0, 0)), False), (([1], None, (0, 2, 0, 0)), False),
                              (([1], None, (0, 3, 1, 0)), False), (([1], None, (0, 3, 0, 1)), False), (([1], None, (0, 3, 0, -1)), False),
                              (([1], None, (0, 3, 0)), False), (([1], None, None), False), (([1], None, (0, 3, 0, False)), False),
                              (([1, 1], None, (0, 3, 0, 0)), False), (([True], None, (0, 3, 0, 0)), False), ([[1], None, (0, 3, 0, 0)], False)):
            self.assertEqual(is_right(FOUR, filling, 1, prices, value), answer, value)
            self.assertIs(is_cheapest_held(FOUR, filling, 1, value, prices), answer)
        # By prices of 1 the first cut will do as well.
        self.assertIs(is_cheapest_held(FOUR, filling, 1, ([0], None, [0, 1, 0, 0])), True)
        self.assertIs(is_cheapest_held(FOUR, filling, 1, ([2], None, [0, 1, 0, 0])), False)
        # Cuts of the right price behind which the tie is not open.
        self.assertIs(is_cheapest_held(FOUR, filling, 1, ([2], None, [0, 3, 0, 0]), [5, 3, 3]), False)

    def test_heights_below_0_and_above_the_sum(self):
        web = Web(5, [(0, 4, 0, 3), (1, 2, 0, 1), (2, 3, 0, 0)])
        filling, prices = [0, 1, 0], [2, 5, 5, 7]
        self.assertEqual(cheapest_held(web, filling, 0, prices)[1][0], 14)
        for heights, answer in (((14, 12, 12, 7, 0), True), ((14, 12, 12, 8, 1), False), ((14, 12, 12, 7, 1), False)):
            self.assertIs(is_cheapest_held(web, filling, 0, ([0, 2, 3], heights, None), prices), answer)
        line = Web(4, [(1, 2, 0, 3)])
        for heights, answer in (((9, 4, 0, -9), True), ((-5, 4, 0, 9), True), ((13, 4, 0, 0), True), ((14, 4, 0, 0), False),
                                ((0, 4, 0, -10), False)):
            self.assertIs(is_cheapest_held(line, [0], 0, ([1], heights, None), [9, 4, 9]), answer)

    def test_no_room_up_or_down(self):
        for value, rises, falls in ((0, False, True), (3, True, False), (1, False, False)):
            found = cheapest_held(Web(2, [(0, 1, 0, 3)]), [value], 0, [1000])
            self.assertEqual([found[0], found[1] is None, found[2] is None], [[0], rises, falls])

    def test_large_webs(self):
        rolls = random.Random(159)
        for web in [LARGE] * 3 + [nets.large_web(rolls) for _ in range(10)]:
            filling = nets.random_filling(rolls, web)
            for tie, (_, _, least, most) in enumerate(web.ties):
                if least < most:
                    prices = random_prices(rolls, web)
                    found = cheapest_held(web, filling, tie, prices)
                    self.assertIs(is_cheapest_held(web, filling, tie, found, prices), True)

    def test_wrong_arguments_in_order(self):
        stuck = Web(3, [(0, 1, 1, 1), (1, 2, 0, 1)])
        for function, more in ((cheapest_held, ()), (is_cheapest_held, (None,))):
            for wrong in NO_FILLINGS:
                self.refuses(InvalidFilling, wrong, function, SMALL, wrong, None, *more, 3)
            for wrong in NO_INTEGERS + [3, -1]:
                self.refuses(InvalidTie, wrong, function, SMALL, [1, 1, 0], wrong, *more, 3)
            for wrong in NO_PRICES:
                self.refuses(InvalidPrices, wrong, function, SMALL, [1, 1, 0], 0, *more, wrong)
                self.refuses(InvalidPrices, wrong, function, stuck, [1, 1], 0, *more, wrong)
        self.fails(StuckTie, {"tie": 0}, cheapest_held, stuck, [1, 1], 0)
        for value in (None, ([], None, None), ([0], None, None), ([0], (1, 0, 0), (0, 1, 1)), ([0, 1], None, None)):
            self.assertIs(is_cheapest_held(stuck, [1, 1], 0, value), False)


if __name__ == "__main__":
    unittest.main()
