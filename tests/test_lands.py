import random
import unittest
from itertools import combinations, permutations, product

from oneforone.boards import Board, count_board
from oneforone.dials import Dials
from oneforone.errors import InvalidLots, InvalidRoad, InvalidRoads, InvalidSize, InvalidSource, InvalidTowns
from oneforone.failures import NoRing, NotJoined, SameRoad, TooMany
from oneforone.lands import Land, land_scene, ringless, road_blocks, shared_ring, trees
from oneforone.links import number, strands
from oneforone.scenes import Scene
from oneforone.totals import Total
from tests.cases import NO_INTEGERS, NO_LISTS, Case
from tests.nets import reached
from tests.runs import LAST, ODD
from tests.sights import parts
from tests.walks import any_values

COUNTS = count_board(2, 2)
EXAMPLE = Land(3, [(0, 1), (0, 1), (1, 2), (2, 2)])
# Two triangles at town 2, a bridge, and a loop.
BOWTIE = Land(6, [(0, 1), (1, 2), (0, 2), (2, 3), (3, 4), (2, 4), (4, 5), (5, 5)])
# Each of three towns is joined to each of three others.
SIDES = Land(6, [(a, b) for a in range(3) for b in range(3, 6)])
NO_ROADS = [None, True, 0, "01", [0, 1], (), (0,), (0, 1, 2), (1, 0), (0, 3), (-1, 0), (False, 1), (0, True), (0, None), ("0", 1),
            ((0,), 1), ((0, 1),)]


def is_ring(land, value):
    """By the words of the point: some unlike towns, as many as roads, lie between them in turn."""
    if type(value) is not list or len(value) == 0 or len(set(value)) < len(value):
        return False
    return any(all(sorted((town, after)) == list(land.roads[road])
                   for road, town, after in zip(value, towns, towns[1:] + towns[:1]))
               for towns in permutations(range(land.towns), len(value))) if len(value) <= land.towns else False


def has_ring(land, lot):
    """Whether some ring has only roads of the lot."""
    lot = list(lot)
    return any(is_ring(land, list(order)) for size in range(1, len(lot) + 1) for chosen in combinations(lot, size)
               for order in permutations(chosen) if order[0] == min(order))


def rings_of(land):
    """The sets of the roads of all rings."""
    found = []
    for size in range(1, min(land.towns, len(land.roads)) + 1):
        for chosen in combinations(range(len(land.roads)), size):
            ends = [land.roads[road] for road in chosen]
            towns = sorted(town for pair in ends for town in pair)
            # Each town of a ring is at two of its roads, or twice at a loop; and its roads hang together.
            if sorted(towns[::2]) == sorted(set(towns)) and towns[::2] == towns[1::2]:
                pairs = ends + [pair[::-1] for pair in ends]
                if reached(pairs, ends[0][0]) == set(towns):
                    found.append(set(chosen))
    return found


def slow_ringless(land, size, rings):
    return [list(lot) for lot in combinations(range(len(land.roads)), size) if not any(ring <= set(lot) for ring in rings)]


def random_land(rolls, most_towns=6, most_roads=9):
    towns = rolls.randint(1, most_towns)
    roads = [tuple(sorted(rolls.choices(range(towns), k=2))) for _ in range(rolls.randint(1, most_roads))]
    return Land(towns, roads)


def random_lands(seed, times, **more):
    rolls = random.Random(seed)
    return [EXAMPLE, BOWTIE, Land(1, [(0, 0)]), Land(2, [(0, 1)])] + [random_land(rolls, **more) for _ in range(times)]


def reached_towns(land):
    return reached(list(land.roads) + [road[::-1] for road in land.roads], 0)


class Lands(Case):
    def test_attributes_and_equality(self):
        roads = [(0, 1), (0, 1), (1, 2), (2, 2)]
        land = Land(3, roads)
        roads.append((0, 0))
        self.assertEqual([land.towns, land.roads], [3, ((0, 1), (0, 1), (1, 2), (2, 2))])
        self.assertTrue(land == EXAMPLE)
        self.assertTrue(Land(3, land.roads) == EXAMPLE)
        for other in (Land(4, land.roads), Land(3, land.roads[::-1]), Land(3, land.roads[:3]), None, 3, (3, land.roads)):
            self.assertFalse(land == other)
        self.assertEqual(len(Land(6, [(5, 5)] * 9).roads), 9)

    def test_wrong_arguments(self):
        for wrong in NO_INTEGERS + [0, 7, -1]:
            self.refuses(InvalidTowns, wrong, Land, wrong, None)
        for wrong in NO_LISTS + [[]] + [[road] for road in NO_ROADS] + [[(0, 1), road] for road in NO_ROADS] + [[(0, 1)] * 10]:
            self.refuses(InvalidRoads, wrong, Land, 3, wrong)

    def test_rings_by_the_words(self):
        for land in random_lands(161, 12, most_towns=4, most_roads=5):
            rings = rings_of(land)
            for size in range(1, len(land.roads) + 1):
                for lot in combinations(range(len(land.roads)), size):
                    self.assertEqual(has_ring(land, lot), any(ring <= set(lot) for ring in rings))


class Ringless(Case):
    def test_by_the_words(self):
        told = set()
        for land in random_lands(162, 150) + [SIDES]:
            rings = rings_of(land)
            for size in range(6):
                lots = slow_ringless(land, size, rings)
                told.add((size, len(lots) > 60, len(lots) == 0))
                self.one(lots, ringless, land, size)
            apart = sorted(set(range(land.towns)) - reached_towns(land))
            if apart:
                told.add("apart")
                self.fails(NotJoined, {"town": apart[0]}, trees, land)
            else:
                self.one(slow_ringless(land, land.towns - 1, rings), trees, land)
        self.assertTrue({"apart", (0, False, False), (5, True, False), (4, True, False), (5, False, False), (1, False, True)} <= told)

    def one(self, lots, function, *given):
        if len(lots) > 60:
            self.fails(TooMany, {"count": len(lots)}, function, *given)
        else:
            found = function(*given)
            self.assertEqual(found, lots)
            self.assertTrue(type(found) is list and all(type(lot) is list for lot in found))

    def test_small_lands_and_sizes(self):
        self.assertEqual([ringless(EXAMPLE, 0), ringless(EXAMPLE, 3), ringless(EXAMPLE, 5)], [[[]], [], []])
        self.assertEqual([trees(Land(1, [(0, 0)])), ringless(Land(1, [(0, 0)]), 1)], [[[]], []])
        self.assertEqual(trees(Land(2, [(0, 1), (0, 1), (1, 1)])), [[0], [1]])

    def test_too_many(self):
        # All roads between five towns but one.
        roads = [(a, b) for a in range(5) for b in range(a + 1, 5)][:9]
        land = Land(5, roads)
        count = len(slow_ringless(land, 4, rings_of(land)))
        self.assertGreater(count, 60)
        self.fails(TooMany, {"count": count}, trees, land)
        self.fails(TooMany, {"count": count}, ringless, land, 4)
        self.fails(TooMany, {"count": 84}, ringless, SIDES, 3)
        # A town that is not joined comes ahead.
        self.fails(NotJoined, {"town": 5}, trees, Land(6, roads))
        self.fails(NotJoined, {"town": 2}, trees, Land(6, [(0, 1), (2, 3), (4, 5)]))
        self.assertEqual(len(trees(Land(3, [(0, 1)] * 6 + [(1, 2)] * 3))), 18)

    def test_sixty_and_one_more(self):
        sixty = Land(5, [(0, 2), (3, 4), (0, 4), (1, 3), (0, 4), (2, 4), (0, 3), (1, 2), (2, 3)])
        more = Land(6, [(2, 5), (0, 4), (0, 1), (2, 3), (4, 5), (1, 3), (1, 2), (1, 5), (2, 4)])
        self.assertEqual([len(trees(sixty)), len(ringless(sixty, 4))], [60, 60])
        self.fails(TooMany, {"count": 61}, trees, more)
        self.fails(TooMany, {"count": 61}, ringless, more, 5)

    def test_wrong_sizes(self):
        for wrong in NO_INTEGERS + [6, -1]:
            self.refuses(InvalidSize, wrong, ringless, EXAMPLE, wrong)


class RoadBlocks(Case):
    def test_by_the_words(self):
        told = set()
        for land in random_lands(163, 150):
            rings = rings_of(land)
            roads = range(len(land.roads))
            pairs = [pair for ring in rings for pair in product(ring, repeat=2)]
            blocks = road_blocks(land)
            self.assertEqual(blocks, [list(part) for part in parts(roads, pairs)])
            self.assertTrue(type(blocks) is list and all(type(block) is list for block in blocks))
            for one, other in permutations(roads, 2):
                both = [ring for ring in rings if one in ring and other in ring]
                self.assertEqual(len(both) > 0, any(one in block and other in block for block in blocks))
                if both:
                    ring = shared_ring(land, one, other)
                    self.assertTrue(is_ring(land, ring))
                    self.assertIn(set(ring), both)
                    told.add(len(ring))
                else:
                    self.fails(NoRing, {}, shared_ring, land, one, other)
        self.assertTrue({2, 3, 4, 5} <= told)

    def test_roads_in_each_order(self):
        for roads in permutations([(0, 1), (1, 2), (2, 3), (0, 3)]):
            land = Land(4, roads)
            self.assertEqual(road_blocks(land), [[0, 1, 2, 3]])
            self.assertTrue(is_ring(land, shared_ring(land, 0, 2)))
        self.assertEqual(road_blocks(BOWTIE), [[0, 1, 2], [3, 4, 5], [6], [7]])
        self.assertEqual(road_blocks(Land(1, [(0, 0), (0, 0)])), [[0], [1]])
        self.assertEqual(road_blocks(Land(2, [(0, 1)] * 9)), [list(range(9))])

    def test_errors_in_order(self):
        for wrong in NO_INTEGERS + [4, -1]:
            self.refuses(InvalidRoad, wrong, shared_ring, EXAMPLE, wrong, None)
            self.refuses(InvalidRoad, wrong, shared_ring, EXAMPLE, 3, wrong)
        for road in range(4):
            self.fails(SameRoad, {"road": road}, shared_ring, EXAMPLE, road, road)
        self.fails(NoRing, {}, shared_ring, EXAMPLE, 3, 0)
        self.fails(NoRing, {}, shared_ring, EXAMPLE, 2, 3)


class Scenes(Case):
    def test_scenes(self):
        for source in (COUNTS, Dials([2], [[0], [1]]), ODD, Dials([0], [[1], [1]])):
            lots = trees(EXAMPLE)
            scene = land_scene(source, EXAMPLE, lots)
            self.assertEqual(scene, Scene(4, [(source, lots)]))
            self.assertEqual(land_scene(source, EXAMPLE, tuple(tuple(lot) for lot in lots)), scene)
            self.assertEqual(land_scene(source, EXAMPLE, []).readers, ((source, ()),))
        self.assertEqual(land_scene(ODD, BOWTIE, [[], [0, 1, 2, 3, 4, 5]] * 30).stints, 8)

    def test_wrong_arguments(self):
        for wrong in any_values() + [LAST]:
            if type(wrong) not in (Board, Dials) and wrong != ODD:
                self.refuses(InvalidSource, wrong, land_scene, wrong, EXAMPLE, None)
        wrongs = NO_LISTS + [[None], [3], ["01"], [[True]], [[4]], [[-1]], [[1, 0]], [[0, 0]], [[0], [None]], [[]] * 61, [(0, 4)]]
        for wrong in wrongs:
            self.refuses(InvalidLots, wrong, land_scene, ODD, EXAMPLE, wrong)
            self.refuses(InvalidLots, wrong, land_scene, COUNTS, EXAMPLE, wrong)
        for wrong in ([[0]], [[0, 1], []], [[0, 1, 2]]):
            self.refuses(InvalidLots, wrong, land_scene, COUNTS, EXAMPLE, wrong)
        seven = [list(range(7))]
        self.refuses(InvalidLots, seven, land_scene, ODD, BOWTIE, seven)
        disordered = Total(2, [[0, 1], [0, 1]], [5, 7])
        self.refuses(InvalidSource, disordered, land_scene, disordered, EXAMPLE, [])

    def test_strands_of_trees_are_road_blocks(self):
        told = set()
        for land in random_lands(164, 120, most_roads=8):
            try:
                lots = trees(land)
            except (NotJoined, TooMany):
                continue
            if land.towns == 1:
                continue
            scene = land_scene(Dials([0], [[0], [1]]), land, lots)
            blocks = road_blocks(land)
            self.assertEqual(strands(scene, 0, land.towns - 1), [block for block in blocks if len(block) > 1])
            for block in blocks:
                towns = {town for road in block for town in land.roads[road]}
                told.add(len(towns))
                self.assertEqual({number(scene, 0, ask, block) for ask in range(len(lots))}, {len(towns) - 1})
        self.assertTrue({1, 2, 3, 4} <= told)

    def test_smaller_lots_are_one_strand(self):
        told = set()
        for land in random_lands(165, 150, most_roads=8):
            if len(reached_towns(land)) < land.towns:
                continue
            for size in range(1, min(land.towns - 1, 6)):
                try:
                    lots = ringless(land, size)
                except TooMany:
                    continue
                scene = land_scene(Dials([0], [[0], [1]]), land, lots)
                roads = [road for road, (one, other) in enumerate(land.roads) if one != other]
                self.assertEqual(strands(scene, 0, size), [roads])
                told.add((land.towns, size))
        self.assertTrue({(3, 1), (4, 2), (5, 3)} <= told)


if __name__ == "__main__":
    unittest.main()
