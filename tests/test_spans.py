import random
import unittest
from itertools import combinations, product

from oneforone.errors import InvalidFilling, InvalidNumber, InvalidSigns, InvalidTie
from oneforone.failures import Beyond, NoFilling
from oneforone.spans import fitting, highest, is_highest, is_lowest, is_no_filling, level, lowest, span
from oneforone.webs import Web
from tests import nets
from tests.cases import NO_INTEGERS, NO_LISTS, Case
from tests.nets import BARE, LARGE, SMALL, STUCK, TWO, random_webs, webs_and_fillings
from tests.test_webs import NO_FILLINGS
from tests.walks import LONG, any_values, is_int, is_listed, mutants

ENDS = ((1, highest, is_highest), (-1, lowest, is_lowest))
NO_SIGNS = NO_LISTS + [[], [0], [0, 0, 0], [True, 0], [0, False], [None, 0], ["1", 0], [[1], 0], [(1,), 0], {"a": 1, "b": 2}]


def is_set(value, below):
    if not is_listed(value) or not all(is_int(item) and 0 <= item < below for item in value):
        return False
    return list(value) == sorted(set(value))


def is_right(web, filling, tie, way, value):
    """Whether it is what `highest` or `lowest` is, by a search of all fillings and the words of the point."""
    if type(value) is not tuple or len(value) != 2 or not nets.is_filling(web, value[0]):
        return False
    other, places = value
    values = [each[tie] for each in nets.alike(web, filling)]
    if nets.shown(web, other) != nets.shown(web, filling) or other[tie] != (max(values) if way == 1 else min(values)):
        return False
    start, end, least, most = web.ties[tie]
    if other[tie] == (most if way == 1 else least):
        return is_listed(places) and len(places) == 0
    here, there = (end, start) if way == 1 else (start, end)
    if not is_set(places, web.places) or here not in places or there in places:
        return False
    for at, (start, end, least, most) in enumerate(web.ties):
        if at != tie and start in places and end not in places and other[at] != most:
            return False
        if at != tie and start not in places and end in places and other[at] != least:
            return False
    return True


def is_no_filling_by_words(web, signs, value):
    if not is_set(value, web.places):
        return False
    need, least, most = 0, 0, 0
    for place in value:
        need += (signs[place] if place < len(signs) else 0) - (signs[place - 1] if place else 0)
    for start, end, low, high in web.ties:
        if start in value and end not in value:
            least, most = least + low, most + high
        if start not in value and end in value:
            least, most = least - high, most - low
    return need > most or need < least


def all_sets(below):
    return [list(chosen) for size in range(below + 1) for chosen in combinations(range(below), size)]


class Ends(Case):
    def test_against_a_search(self):
        told = set()
        for web, filling in webs_and_fillings(144, 150, most_fillings=250) + [(STUCK, [2, 1, 2, -1, 0, 3])]:
            alike = nets.alike(web, filling)
            for tie in range(len(web)):
                values = [each[tie] for each in alike]
                self.assertEqual(span(web, filling, tie), (min(values), max(values)))
                self.assertIs(type(span(web, filling, tie)), tuple)
                for way, function, judge in ENDS:
                    found = function(web, filling, tie)
                    self.assertEqual([type(found), type(found[0]), type(found[1])], [tuple, tuple, list])
                    self.assertTrue(is_right(web, filling, tie, way, found))
                    self.assertIs(judge(web, filling, tie, found), True)
                    self.assertIs(judge(web, filling, tie, (list(found[0]), tuple(found[1]))), True)
                    self.assertEqual(function(web, tuple(filling), tie), found)
                    told.add((way, len(found[1]) > 0, len(set(values)) > 1))
        self.assertEqual(told, set(product((1, -1), (True, False), (True, False))))

    def test_judges(self):
        told = set()
        for web, filling in webs_and_fillings(11, 22, each=1, most_fillings=40):
            alike = nets.alike(web, filling)
            others = alike + [each for each in nets.fillings(web) if each not in alike][:5]
            for tie in range(len(web)):
                for way, _, judge in ENDS:
                    values = list(product(others[:25], all_sets(web.places)))
                    self.judges(lambda value: judge(web, filling, tie, value),
                                lambda value: is_right(web, filling, tie, way, value), values)
                    told |= {is_right(web, filling, tie, way, value) for value in values}
        self.assertEqual(told, {True, False})

    def test_judges_with_any_values(self):
        for way, function, judge in ENDS:
            for filling, tie in (([1, 1, 0], 0), ([1, 1, 0], 1), ([0, 2, 1], 2)):
                right = function(SMALL, filling, tie)
                values = any_values() + list(mutants(right)) + [list(right), right + ([],), (right[0],), right[::-1]]
                self.judges(lambda value: judge(SMALL, filling, tie, value),
                            lambda value: is_right(SMALL, filling, tie, way, value), values)

    def test_each_condition_broken_alone(self):
        web, filling = SMALL, [1, 1, 0]
        self.assertEqual(highest(web, filling, 0), ((1, 1, 0), [2]))
        for value, answer in ((((1, 1, 0), [2]), True), (([1, 1, 0], (2,)), True), (((0, 2, 1), [2]), False),
                              (((1, 1, 0), []), False), (((1, 1, 0), [0, 2]), False), (((1, 1, 0), [1]), False),
                              (((1, 1, 0), [1, 2]), False), (((1, 1, 0), [2, 1]), False), (((1, 1, 0), [2, 2]), False),
                              (((1, 1, 0), [3]), False), (((1, 1, 1), [2]), False), (((1, 1), [2]), False),
                              ([(1, 1, 0), [2]], False), (((1, True, 0), [2]), False), (((1, 1, 0), None), False)):
            self.assertIs(is_highest(web, filling, 0, value), answer, value)
        # A tie at its most has only the empty list, whatever else would hold.
        self.assertIs(is_highest(web, [2, 0, 0], 0, ((2, 0, 0), [])), True)
        self.assertIs(is_highest(web, [2, 0, 0], 0, ((2, 0, 0), [2])), False)
        self.assertIs(is_lowest(web, [0, 2, 1], 0, ((0, 2, 1), [])), True)
        self.assertIs(is_lowest(web, [0, 2, 1], 0, ((0, 2, 1), [0])), False)

    def test_levels(self):
        for web, filling in webs_and_fillings(12, 60, most_fillings=200):
            alike = nets.alike(web, filling)
            for tie in range(len(web)):
                values = [each[tie] for each in alike]
                for number in range(min(values), max(values) + 1):
                    found = level(web, filling, tie, number)
                    self.assertEqual([type(found), found[tie]], [tuple, number])
                    self.assertIn(found, alike)
                for number in (min(values) - 1, max(values) + 1, LONG, -LONG):
                    self.fails(Beyond, {"least": min(values), "greatest": max(values)}, level, web, filling, tie, number)

    def test_large_webs(self):
        rolls = random.Random(144)
        for web in [LARGE] * 3 + [nets.large_web(rolls) for _ in range(12)]:
            filling = nets.random_filling(rolls, web)
            for tie in range(len(web)):
                ends = [function(web, filling, tie) for _, function, _ in ENDS]
                self.assertEqual([judge(web, filling, tie, end) for (_, _, judge), end in zip(ENDS, ends)], [True, True])
                least, greatest = span(web, filling, tie)
                self.assertEqual([ends[0][0][tie], ends[1][0][tie]], [greatest, least])
                found = level(web, filling, tie, rolls.randint(least, greatest))
                self.assertTrue(nets.is_filling(web, found))
                self.assertEqual(nets.shown(web, found), nets.shown(web, filling))

    def test_wide_ties(self):
        wide = Web(2, [(0, 1, -100, 100), (0, 1, -100, 100), (0, 1, -100, 100)])
        self.assertEqual(highest(wide, [-100, 100, 0], 0), ((100, -100, 0), []))
        self.assertEqual(span(wide, [-100, 100, 100], 0), (-100, 100))
        self.assertEqual(lowest(wide, [100, 100, 99], 2), ((100, 100, 99), [0]))
        self.assertEqual(span(TWO, [4, 3], 1), (3, 4))

    def test_wrong_arguments(self):
        calls = [(highest, ()), (lowest, ()), (span, ()), (level, (None,)), (is_highest, (None,)), (is_lowest, (None,))]
        for function, more in calls:
            for wrong in NO_FILLINGS:
                self.refuses(InvalidFilling, wrong, function, SMALL, wrong, None, *more)
            for wrong in NO_INTEGERS + [3, -1]:
                self.refuses(InvalidTie, wrong, function, SMALL, [1, 1, 0], wrong, *more)
        for wrong in NO_INTEGERS:
            self.refuses(InvalidNumber, wrong, level, SMALL, [1, 1, 0], 0, wrong)


class Fitting(Case):
    def test_against_a_search(self):
        told = set()
        for web in random_webs(146, 60, most_fillings=120, most_places=4):
            shown = nets.by_signs(web)
            rolls = random.Random(len(web))
            given = list(shown)[:30]
            given += [[sign + rolls.randint(-2, 2) for sign in rolls.choice(list(shown))] for _ in range(20)]
            for signs in given:
                told.add(tuple(signs) in shown)
                if tuple(signs) in shown:
                    found = fitting(web, signs)
                    self.assertIs(type(found), tuple)
                    self.assertIn(found, shown[tuple(signs)])
                    self.assertEqual(fitting(web, list(signs)), found)
                else:
                    self.refused(web, signs)
        self.assertEqual(told, {True, False})

    def refused(self, web, signs):
        with self.assertRaises(NoFilling) as caught:
            fitting(web, signs)
        self.assertEqual(list(vars(caught.exception)), ["places"])
        places = caught.exception.places
        self.assertIs(type(places), list)
        self.assertTrue(is_no_filling_by_words(web, signs, places))
        self.assertIs(is_no_filling(web, signs, places), True)

    def test_long_signs(self):
        for web in (SMALL, TWO, STUCK, LARGE, BARE):
            rolls = random.Random(20)
            for _ in range(10):
                self.refused(web, [rolls.choice([0, LONG, -LONG, 10 ** 19]) for _ in range(web.places - 2)] + [LONG])
        self.assertEqual(fitting(BARE, [0]), ())
        self.refused(BARE, [1])
        self.refused(BARE, (-1,))

    def test_large_webs(self):
        rolls = random.Random(146)
        for web in [LARGE] * 3 + [nets.large_web(rolls) for _ in range(30)]:
            signs = nets.shown(web, nets.random_filling(rolls, web))
            found = fitting(web, signs)
            self.assertTrue(nets.is_filling(web, found))
            self.assertEqual(nets.shown(web, found), signs)
            most = nets.shown(web, [tie[3] for tie in web.ties])
            self.assertEqual(nets.shown(web, fitting(web, most)), most)
            at = rolls.randrange(11)
            self.refused(web, most[:at] + (most[at] + 1,) + most[at + 1:])

    def test_judge(self):
        told = set()
        for web in random_webs(13, 25, most_places=4, most_fillings=60):
            rolls = random.Random(len(web))
            for _ in range(6):
                signs = [rolls.randint(-6, 6) for _ in range(web.places - 1)]
                values = all_sets(web.places) + [[1, 0], [0, 0], [True], [web.places], [-1], (0, 1)]
                self.judges(lambda value: is_no_filling(web, signs, value),
                            lambda value: is_no_filling_by_words(web, signs, value), values)
                told |= {is_no_filling(web, signs, value) for value in values}
        self.assertEqual(told, {True, False})
        self.judges(lambda value: is_no_filling(SMALL, [1, 3], value),
                    lambda value: is_no_filling_by_words(SMALL, [1, 3], value), any_values() + list(mutants([0, 2])))

    def test_needs_too_much_and_too_little(self):
        self.assertIs(is_no_filling(SMALL, [5, 0], [0]), True)
        self.assertIs(is_no_filling(SMALL, [5, 0], [1, 2]), True)
        self.assertIs(is_no_filling(SMALL, [5, 0], []), False)
        self.assertIs(is_no_filling(SMALL, [5, 0], [0, 1, 2]), False)
        self.assertIs(is_no_filling(SMALL, [-1, 0], [0]), True)
        self.assertIs(is_no_filling(SMALL, [4, 0], [0]), False)

    def test_wrong_arguments(self):
        for wrong in NO_SIGNS:
            self.refuses(InvalidSigns, wrong, fitting, SMALL, wrong)
            self.refuses(InvalidSigns, wrong, is_no_filling, SMALL, wrong, None)


if __name__ == "__main__":
    unittest.main()
