import unittest
from itertools import permutations, product

from oneforone.boards import count_board
from oneforone.dials import Dials
from oneforone.errors import InvalidAxes, InvalidCreases, InvalidLength, InvalidPlace
from oneforone.scenes import Scene
from oneforone.strips import band_lots, band_rounds, band_told, is_strip_way, strip_lots, strip_way
from oneforone.totals import Total
from tests.cases import NO_INTEGERS, NO_LISTS, Case
from tests.runs import ODD
from tests.sights import alike_lists, shown
from tests.walks import any_values, is_int, is_listed, mutants

STEPS = Dials([0], [[0], [1]])
# For a strip of length 5.
NO_CREASES = NO_LISTS + [[], [0], [5], [-1], [True], [1, None], [1, "2"], [[1]], [1, 1], [2, 1, 2], [1, 2, 3, 4], (0,), (1, 1)]
NO_AXES = NO_LISTS + [[], [5], [-1], [False], [1, None], [1, "2"], [[1]], [1, 1], [0, 1, 0], [0, 1, 2, 3], (5,), (1, 1)]


def pressed(length, crease):
    """For each place the one that lies on it at the crease, by the words."""
    found = {}
    for i in range(length):
        if crease - 1 - i >= 0 and crease + i < length:
            found[crease - 1 - i] = crease + i
            found[crease + i] = crease - 1 - i
    return found


def slow_lots(places, partners):
    """The lots by pairs of partners, in one ascending order."""
    return sorted({tuple(sorted({place, partners.get(place, place)})) for place in places})


def is_way(length, creases, place, value):
    if not is_listed(value) or len(value) == 0 or not all(is_int(each) and 0 <= each < length for each in value):
        return False
    if value[-1] != place:
        return False
    for one, other in (creases, creases[::-1]):
        tables = [pressed(length, other), pressed(length, one)]
        if value[0] not in pressed(length, one) and all(tables[at % 2].get(here) == there
                                                        for at, (here, there) in enumerate(zip(value, value[1:]))):
            return True
    return False


def is_told(scene):
    return all(len(others) == 1 for others in alike_lists(scene).values())


class Strips(Case):
    def test_lots(self):
        for length in range(2, 13):
            for many in (1, 2, 3):
                for creases in permutations(range(1, length), many) if length < 8 or many < 3 else [(1, length - 1, 4), (7, 2, 5)]:
                    found = strip_lots(length, list(creases))
                    lots = [list(lot) for crease in creases for lot in slow_lots(range(length), pressed(length, crease))]
                    self.assertEqual(found, lots)
                    self.assertTrue(type(found) is list and all(type(lot) is list for lot in found))
                    self.assertEqual(strip_lots(length, creases), found)
        self.assertEqual(strip_lots(2, [1]), [[0, 1]])
        self.assertEqual(strip_lots(3, [2, 1]), [[0], [1, 2], [0, 1], [2]])

    def test_ways(self):
        told = set()
        for length in range(3, 13):
            for creases in permutations(range(1, length), 2):
                for place in range(length):
                    found = strip_way(length, list(creases), place)
                    told.add(len(found))
                    self.assertIs(type(found), list)
                    self.assertTrue(is_way(length, creases, place, found))
                    self.assertIs(is_strip_way(length, creases, place, found), True)
                    self.assertIs(is_strip_way(length, creases[::-1], place, tuple(found)), True)
                    self.assertEqual(strip_way(length, creases, place), found)
        self.assertTrue({1, 2, 3, 11, 12} <= told)

    def test_alone_at_one_or_both_creases(self):
        # Place 4 lies alone at both creases of this strip; place 3 at the first one alone.
        self.assertEqual(strip_way(5, [1, 2], 4), [4])
        self.assertEqual(strip_way(5, [1, 2], 3), [3])
        for value, answer in (([4], True), ((4,), True), ([4, 4], False), ([3], False), ([], False), ([True], False)):
            self.assertIs(is_strip_way(5, [1, 2], 4, value), answer)
        self.assertIs(is_strip_way(5, [2, 3], 2, [0, 3, 2]), True)
        self.assertIs(is_strip_way(5, [2, 3], 2, [0, 3, 3]), False)
        self.assertIs(is_strip_way(5, [2, 3], 2, [0, 1, 2]), False)
        self.assertIs(is_strip_way(5, [2, 3], 2, [4, 1, 2]), True)
        self.assertIs(is_strip_way(5, [2, 3], 2, [1, 2]), False)
        self.assertIs(is_strip_way(5, [2, 3], 0, [0]), True)
        self.assertIs(is_strip_way(5, [2, 3], 3, [0, 3]), True)
        self.assertIs(is_strip_way(5, [2, 3], 3, [2, 3]), False)

    def test_judge(self):
        told = set()
        for length, creases in ((3, [1, 2]), (4, [3, 1]), (5, [2, 3]), (5, [1, 2]), (6, [2, 5])):
            for place in range(length):
                values = [list(each) for many in range(5) for each in product(range(length), repeat=many)]
                values += [strip_way(length, creases, place)]
                self.judges(lambda value: is_strip_way(length, creases, place, value),
                            lambda value: is_way(length, creases, place, value), values)
                told |= {len(value) for value in values if is_way(length, creases, place, value)}
        self.assertTrue({1, 2, 3, 4} <= told)
        # Places beyond the ends lie on nothing.
        for place, value in ((4, [-1, 4]), (0, [5, 0]), (4, [-5, 4])):
            self.assertIs(is_strip_way(5, [2, 3], place, value), False)
            self.assertIs(is_strip_way(5, (3, 2), place, value), False)
        right = strip_way(5, [2, 3], 2)
        self.judges(lambda value: is_strip_way(5, [2, 3], 2, value), lambda value: is_way(5, [2, 3], 2, value),
                    any_values() + list(mutants(right)))

    def test_all_places_are_known(self):
        sources = [STEPS, Dials([3], [[0], [2]]), ODD, Total(2, [[at, min(at + 1, 2)] for at in range(3)], [5, 6, 4])]
        for length in range(3, 7):
            for creases in permutations(range(1, length), 2):
                for source in sources:
                    self.assertTrue(is_told(Scene(length, [(source, strip_lots(length, creases))])))
        two = count_board(2, 2)
        lots = strip_lots(6, [3, 2])
        readers = [(two, [lot for lot in lots if len(lot) == 2]), (count_board(2, 1), [lot for lot in lots if len(lot) == 1])]
        self.assertTrue(is_told(Scene(6, readers)))

    def test_wrong_arguments(self):
        for wrong in NO_INTEGERS + [0, 1, 13, -3]:
            self.refuses(InvalidLength, wrong, strip_lots, wrong, None)
            self.refuses(InvalidLength, wrong, strip_way, wrong, None, None)
            self.refuses(InvalidLength, wrong, is_strip_way, wrong, None, None, None)
        for wrong in NO_CREASES:
            self.refuses(InvalidCreases, wrong, strip_lots, 5, wrong)
        for wrong in NO_CREASES + [[1], [1, 2, 3], (3,)]:
            self.refuses(InvalidCreases, wrong, strip_way, 5, wrong, None)
            self.refuses(InvalidCreases, wrong, is_strip_way, 5, wrong, None, None)
        for wrong in NO_INTEGERS + [5, -1]:
            self.refuses(InvalidPlace, wrong, strip_way, 5, [1, 2], wrong)
            self.refuses(InvalidPlace, wrong, is_strip_way, 5, [1, 2], wrong, None)
        for wrong in ([1, 2], [2]):
            self.refuses(InvalidCreases, wrong, strip_lots, 2, wrong)
        one = [1]
        self.refuses(InvalidCreases, one, strip_way, 2, one, 0)


class Bands(Case):
    def test_lots(self):
        for length in range(3, 13):
            for many in (1, 2, 3):
                for axes in permutations(range(length), many) if length < 7 or many < 3 else [(0, length - 1, 4), (6, 2, 5)]:
                    found = band_lots(length, list(axes))
                    lots = []
                    for axis in axes:
                        partners = {place: other for place in range(length) for other in range(length)
                                    if (place + other - axis) % length == 0}
                        lots += [list(lot) for lot in slow_lots(range(length), partners)]
                    self.assertEqual(found, lots)
                    self.assertTrue(type(found) is list and all(type(lot) is list for lot in found))
                    self.assertEqual(band_lots(length, axes), found)

    def test_told_and_rounds(self):
        told = set()
        for length in range(3, 13):
            for one, other in permutations(range(length), 2):
                steps = [step for step in range(1, length + 1) if length % step == 0 and (other - one) % step == 0]
                common = max(steps)
                rounds = len([(a, b) for a in range(common) for b in range(common) if a < b and (a + b - one) % common == 0])
                answer = band_told(length, one, other)
                self.assertIs(answer, common == 1 or common == 2 and one % 2 == 0)
                self.assertEqual(band_rounds(length, one, other), rounds)
                self.assertIs(answer, rounds == 0)
                told.add((common, answer))
        self.assertTrue({(1, True), (2, True), (2, False), (3, False), (4, False), (6, False)} <= told)

    def test_against_all_histories(self):
        told = set()
        for length in range(3, 9):
            for one, other in permutations(range(length), 2):
                if length > 6 and one > 3:
                    continue
                scene = Scene(length, [(STEPS, band_lots(length, [one, other]))])
                answer = is_told(scene)
                told.add(answer)
                self.assertIs(band_told(length, one, other), answer)
        self.assertEqual(told, {True, False})
        for source in (ODD, Dials([2], [[0], [1]]), Dials([0], [[0], [1], [5]])):
            for length in (4, 5, 6):
                for one, other in ((0, 1), (1, 2), (0, 2), (1, 3), (0, 3)):
                    scene = Scene(length, [(source, band_lots(length, [one, other]))])
                    self.assertIs(band_told(length, one, other), is_told(scene))

    def test_open_ones_are_swapped_in_rounds(self):
        # Histories that are alike are one way round or the other in each round that is left open.
        scene = Scene(6, [(STEPS, band_lots(6, [1, 4]))])
        self.assertEqual(band_rounds(6, 1, 4), 1)
        self.assertEqual(max(len(others) for others in alike_lists(scene).values()), 2)
        self.assertEqual(len({str(shown(scene, history)) for history in product((0, 1), repeat=6)}),
                         len({tuple(others) for others in alike_lists(scene).values()}))

    def test_wrong_arguments(self):
        for wrong in NO_INTEGERS + [0, 1, 2, 13, -3]:
            self.refuses(InvalidLength, wrong, band_lots, wrong, None)
            self.refuses(InvalidLength, wrong, band_told, wrong, None, None)
            self.refuses(InvalidLength, wrong, band_rounds, wrong, None, None)
        for wrong in NO_AXES:
            self.refuses(InvalidAxes, wrong, band_lots, 5, wrong)
        for function in (band_told, band_rounds):
            for one, other in [(wrong, 1) for wrong in NO_INTEGERS + [5, -1, 1]] + [(0, wrong) for wrong in NO_INTEGERS + [5, -1, 0]]:
                with self.assertRaises(InvalidAxes) as caught:
                    function(5, one, other)
                given = caught.exception.given
                self.assertEqual([type(given), len(given)], [list, 2])
                self.assertIs(given[0], one)
                self.assertIs(given[1], other)
        self.assertEqual(band_lots(3, [0]), [[0], [1, 2]])


if __name__ == "__main__":
    unittest.main()
