import random
import unittest
from itertools import product

from oneforone.errors import InvalidFilling, InvalidWeights
from oneforone.failures import TooMany
from oneforone.prices import greatest_sum, is_greatest_sum
from oneforone.webs import Web
from tests import nets
from tests.cases import NO_LISTS, Case
from tests.nets import BARE, LARGE, SMALL, STUCK, TWO, webs_and_fillings
from tests.test_webs import NO_FILLINGS
from tests.walks import LONG, any_values, is_int, is_listed, mutants

NO_WEIGHTS = NO_LISTS + [[], [0, 0], [0, 0, 0, 0], [1001, 0, 0], [0, 0, -1001], [True, 0, 0], [0, False, 0], [None, 0, 0],
                         ["1", 0, 0], [[1], 0, 0], (1001, 0, 0), {"a": 1}]


def worth(weights, filling):
    return sum(weight * value for weight, value in zip(weights, filling))


def are_prices(web, weights, other, prices):
    """By the words of the point."""
    for weight, value, (start, end, least, most) in zip(weights, other, web.ties):
        less = weight + prices[start] - prices[end]
        if less > 0 and value != most or less < 0 and value != least:
            return False
    return True


def is_right(web, filling, weights, value):
    if type(value) is not tuple or len(value) != 2 or not nets.is_filling(web, value[0]) or not is_listed(value[1]):
        return False
    other, prices = value
    if len(prices) != web.places or not all(is_int(price) for price in prices):
        return False
    best = max(worth(weights, each) for each in nets.alike(web, filling))
    return (nets.shown(web, other) == nets.shown(web, filling) and worth(weights, other) == best
            and are_prices(web, weights, other, prices))


class Greatest(Case):
    def right(self, web, filling, weights, found):
        self.assertEqual([type(found), type(found[0]), type(found[1])], [tuple, tuple, tuple])
        self.assertTrue(nets.is_filling(web, found[0]))
        self.assertEqual(nets.shown(web, found[0]), nets.shown(web, filling))
        self.assertEqual(len(found[1]), web.places)
        self.assertTrue(are_prices(web, weights, *found))
        self.assertIs(is_greatest_sum(web, filling, weights, found), True)
        self.assertIs(is_greatest_sum(web, filling, weights, (list(found[0]), list(found[1]))), True)

    def test_against_a_search(self):
        rolls = random.Random(145)
        told = set()
        for web, filling in webs_and_fillings(145, 200, most_fillings=250) + [(STUCK, [2, 1, 2, -1, 0, 3])]:
            for most in (1, 5, 1000):
                weights = [rolls.choice([0, most, -most, rolls.randint(-most, most)]) for _ in range(len(web))]
                found = greatest_sum(web, filling, weights)
                self.right(web, filling, weights, found)
                self.assertTrue(is_right(web, filling, weights, found))
                self.assertEqual(greatest_sum(web, tuple(filling), tuple(weights)), found)
                told.add(worth(weights, found[0]) > worth(weights, filling))
        self.assertEqual(told, {True, False})

    def test_large_webs_in_time(self):
        rolls = random.Random(16)
        for turn in range(40):
            web = LARGE if turn < 10 else nets.large_web(rolls, 12)
            if sum(most - least for _, _, least, most in web.ties) > 400:
                continue
            filling = nets.random_filling(rolls, web)
            weights = [rolls.randint(-1000, 1000) for _ in range(16)]
            self.right(web, filling, weights, greatest_sum(web, filling, weights))

    def test_no_weights_and_no_ties(self):
        for filling in ([1, 1, 0], [0, 2, 1]):
            self.right(SMALL, filling, [0, 0, 0], greatest_sum(SMALL, filling, [0, 0, 0]))
        self.assertEqual(greatest_sum(BARE, [], [])[0], ())
        self.assertEqual(greatest_sum(TWO, [0, 1], [1000, -1000])[0], (4, -3))
        self.assertEqual(greatest_sum(TWO, [0, 1], [-1000, 1000])[0], (-3, 4))

    def test_many_small_weights_are_more_than_a_large_one(self):
        web = Web(4, [(0, 1, 0, 1), (1, 2, 0, 1), (2, 3, 0, 1), (0, 3, 0, 1)])
        for weights, best in (([1, 1, 1, 2], (1, 1, 1, 0)), ([1, 1, 1, 4], (0, 0, 0, 1)), ([-1, -1, -1, -2], (0, 0, 0, 1)),
                              ([-1, -1, -1, -4], (1, 1, 1, 0)), ([1, 1, -1, 0], (1, 1, 1, 0))):
            for filling in ([0, 0, 0, 1], [1, 1, 1, 0]):
                found = greatest_sum(web, filling, weights)
                self.assertEqual(found[0], best)
                self.right(web, filling, weights, found)

    def test_too_many(self):
        for most, count in ((100, 400), (99, 399)):
            web = Web(2, [(0, 1, -100, 100), (0, 1, -100, most)])
            self.assertEqual(greatest_sum(web, [0, 0], [5, 6])[0], (-most, most))
            self.assertEqual(sum(tie[3] - tie[2] for tie in web.ties), count)
        web = Web(2, [(0, 1, -100, 100), (0, 1, -100, 100), (0, 1, 0, 1)])
        self.fails(TooMany, {"count": 401}, greatest_sum, web, [0, 0, 0], [0, 0, 0])
        self.refuses(InvalidFilling, None, greatest_sum, web, None, None)
        wrong = [0, 0, 1001]
        self.refuses(InvalidWeights, wrong, greatest_sum, web, [0, 0, 0], wrong)
        # The judge takes webs of any room.
        self.assertIs(is_greatest_sum(web, [0, 0, 0], [1, -1, 0], ((100, -100, 0), [0, 0])), True)
        self.assertIs(is_greatest_sum(web, [0, 0, 0], [1, -1, 0], ((100, -100, 0), [0, 2])), False)

    def test_judge(self):
        told = set()
        rolls = random.Random(17)
        for web, filling in webs_and_fillings(14, 25, each=1, most_fillings=30, most_places=3, most_ties=4):
            weights = [rolls.randint(-2, 2) for _ in range(len(web))]
            fillings = nets.alike(web, filling)[:8] + nets.fillings(web)[:3]
            values = list(product(fillings, product(range(-3, 4), repeat=web.places)))
            self.judges(lambda value: is_greatest_sum(web, filling, weights, value),
                        lambda value: is_right(web, filling, weights, value), values)
            told |= {is_greatest_sum(web, filling, weights, value) for value in values}
        self.assertEqual(told, {True, False})

    def test_each_condition_broken_alone(self):
        web, filling, weights = SMALL, [1, 1, 0], [0, 3, -1]
        right = ((0, 2, 1), [0, 1, 0])
        values = any_values() + list(mutants(right)) + [((0, 2, 1), [LONG, LONG + 1, LONG]), ((0, 2, 1), [0, 4, 0])]
        values += [((1, 1, 0), [0, 1, 0]), ((0, 2, 0), [0, 1, 0]), ((0, 2, 1), [0, 0, 0]), ((0, 2, 1), [0, 1, 0, 0]), right[::-1]]
        self.judges(lambda value: is_greatest_sum(web, filling, weights, value),
                    lambda value: is_right(web, filling, weights, value), values)
        self.assertIs(is_greatest_sum(web, filling, weights, ((0, 2, 1), [LONG, LONG + 1, LONG])), True)
        self.assertIs(is_greatest_sum(web, filling, weights, ((1, 1, 0), [0, 1, 0])), False)

    def test_prices_wrong_at_one_tie(self):
        web = Web(3, [(0, 1, 0, 2), (1, 2, 0, 2), (0, 2, 0, 2)])
        filling, weights = [1, 1, 1], [1, 1, -5]
        self.assertEqual(greatest_sum(web, filling, weights)[0], (2, 2, 0))
        for prices, answer in (([0, 0, 0], True), ([0, 1, 1], True), ([0, 2, 1], False), ([0, 0, 2], False), ([0, 1, 2], True),
                               ([0, -4, -6], False), ([0, -5, -5], True), ([6, 0, 0], False), ([5, 0, 0], True)):
            self.assertIs(is_greatest_sum(web, filling, weights, ((2, 2, 0), prices)), answer, prices)

    def test_wrong_arguments(self):
        for function, more in ((greatest_sum, ()), (is_greatest_sum, (None,))):
            for wrong in NO_FILLINGS:
                self.refuses(InvalidFilling, wrong, function, SMALL, wrong, None, *more)
            for wrong in NO_WEIGHTS:
                self.refuses(InvalidWeights, wrong, function, SMALL, [1, 1, 0], wrong, *more)


if __name__ == "__main__":
    unittest.main()
