"""Lands of towns and roads: ringless lots, joining trees, and the rings that roads share."""

from itertools import combinations

from oneforone.checks import are_between, is_between, is_list, is_tuple
from oneforone.errors import InvalidLots, InvalidRoad, InvalidRoads, InvalidSize, InvalidSource, InvalidTowns
from oneforone.failures import NoRing, NotJoined, SameRoad, TooMany
from oneforone.joins import joined
from oneforone.scenes import Scene
from oneforone.sources import is_source, may_ask


def _is_road(towns, value):
    return is_tuple(value, 2) and are_between(value, 0, towns - 1) and value[0] <= value[1]


class Land:
    """A number of towns, and the roads as tuples of the two towns between which they lie."""

    def __init__(self, towns, roads):
        if not is_between(towns, 1, 6):
            raise InvalidTowns(towns)
        if not is_list(roads, 1, 9) or not all([_is_road(towns, road) for road in roads]):
            raise InvalidRoads(roads)
        self.towns = towns
        self.roads = tuple(roads)

    def __eq__(self, other):
        return isinstance(other, Land) and self.towns == other.towns and self.roads == other.roads


def _parts(land, lot):
    """The lists of the towns that the roads of the lot join."""
    return joined([[town] for town in range(land.towns)] + [land.roads[road] for road in lot])


def _is_ringless(land, lot):
    """Whether each road of the lot joins parts that the others do not."""
    return len(_parts(land, lot)) == land.towns - len(lot)


def _ringless(land, size):
    numbers = list(range(len(land.roads)))
    # The lots come ascending, as the numbers do.
    found = [list(lot) for lot in combinations(numbers, size) if _is_ringless(land, lot)]
    if len(found) > 60:
        raise TooMany(len(found))
    return found


def ringless(land, size):
    """The ascending list of all ringless lots of so many roads."""
    if not is_between(size, 0, 5):
        raise InvalidSize(size)
    return _ringless(land, size)


def trees(land):
    """The ascending list of all joining trees."""
    reached = _parts(land, list(range(len(land.roads))))[0]
    apart = [town for town in range(land.towns) if town not in reached]
    if apart:
        raise NotJoined(apart[0])
    return _ringless(land, land.towns - 1)


def _paths(land, start, end, been):
    """All lists of roads that lead from start to end over unlike towns, none of them one that one has been to."""
    if start == end:
        return [[]]
    found = []
    for road, towns in enumerate(land.roads):
        if start in towns:
            beyond = towns[1] if towns[0] == start else towns[0]
            if beyond not in been:
                found.extend([[road] + path for path in _paths(land, beyond, end, been + [beyond])])
    return found


def _ring_with(land, one, other):
    """A ring that begins with the one road and has the other one, or None."""
    start, end = land.roads[one]
    rings = [[one] + path for path in _paths(land, end, start, [end]) if other in path]
    return rings[0] if rings else None


def road_blocks(land):
    """The ascending list of the lists of roads of which any two are in a ring, or which are alone."""
    roads = list(range(len(land.roads)))
    pairs = [[one, other] for one in roads for other in roads[one + 1:] if _ring_with(land, one, other) is not None]
    return joined([[road] for road in roads] + pairs)


def _check_road(land, road):
    if not is_between(road, 0, len(land.roads) - 1):
        raise InvalidRoad(road)


def shared_ring(land, one, other):
    """Any ring that has both roads."""
    _check_road(land, one)
    _check_road(land, other)
    if one == other:
        raise SameRoad(one)
    ring = _ring_with(land, one, other)
    if ring is None:
        raise NoRing()
    return ring


def land_scene(source, land, lots):
    """The scene with a stint for each road, and a reader with the source who asks the lots."""
    if not is_source(source):
        raise InvalidSource(source)
    if not is_list(lots, 0, 60) or not all([may_ask(source, len(land.roads), lot) for lot in lots]):
        raise InvalidLots(lots)
    return Scene(len(land.roads), [(source, lots)])
