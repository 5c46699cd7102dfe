"""Webs, looked at by the words of the document and without the program's help, and webs to try it on."""

import random
from functools import lru_cache
from itertools import product

from oneforone.webs import Web
from tests.walks import is_int, is_listed

SMALL = Web(3, [(0, 2, 0, 2), (0, 1, 0, 2), (1, 2, 0, 1)])
BARE = Web(2, [])
TWO = Web(2, [(0, 1, -3, 4), (0, 1, -3, 4)])
STUCK = Web(4, [(0, 3, 2, 2), (0, 1, 0, 3), (1, 3, 0, 3), (1, 2, -1, -1), (2, 3, 0, 2), (0, 3, -2, 5)])
# Twelve places and sixteen ties.
LARGE = Web(12, [(at, at + 1, -25, 0) for at in range(11)] + [(0, 11, 0, 25), (2, 9, -5, 20), (0, 5, -20, 5), (4, 11, -9, 16),
                                                             (3, 8, 0, 25)])
# Rings from tie 0 that come to place 2 twice are rings, too.
EIGHT = Web(5, [(0, 1, 0, 1), (1, 2, 0, 1), (0, 2, 0, 1), (2, 3, 0, 1), (3, 4, 0, 1), (2, 4, 0, 1)])


def is_filling(web, value):
    if not is_listed(value) or len(value) != len(web.ties):
        return False
    return all(is_int(item) and tie[2] <= item <= tie[3] for item, tie in zip(value, web.ties))


def shown(web, values):
    return tuple(sum(value for value, tie in zip(values, web.ties) if tie[0] < cut + 1 and tie[1] >= cut + 1)
                 for cut in range(web.places - 1))


def fillings(web):
    return list(product(*[range(least, most + 1) for _, _, least, most in web.ties]))


@lru_cache(500)
def _by_signs(places, ties):
    web = Web(places, ties)
    found = {}
    for filling in fillings(web):
        found.setdefault(shown(web, filling), []).append(filling)
    return found


def by_signs(web):
    """The list of the fillings for each tuple of signs, by a search of all of them."""
    return _by_signs(web.places, web.ties)


def alike(web, filling):
    return by_signs(web)[shown(web, filling)]


def is_flow(web, value):
    if not is_listed(value) or len(value) != len(web.ties) or not all(is_int(item) for item in value):
        return False
    return all(sum(item for item, tie in zip(value, web.ties) if tie[0] == place)
               == sum(item for item, tie in zip(value, web.ties) if tie[1] == place) for place in range(web.places))


def steps(web, filling):
    """All steps that there are, as (from, to, (tie, way))."""
    found = []
    for tie, (start, end, least, most) in enumerate(web.ties):
        found += [(start, end, (tie, 1))] * (filling[tie] < most) + [(end, start, (tie, -1))] * (filling[tie] > least)
    return found


def reached(pairs, place):
    """All places to which the pairs lead from the place, also itself."""
    found = {place}
    while True:
        more = found | {end for start, end in pairs if start in found}
        if more == found:
            return found
        found = more


def shut(web, filling, tie, way):
    """The places to which steps over other ties lead from where the tie's step ends."""
    place = web.ties[tie][1] if way == 1 else web.ties[tie][0]
    return reached([(start, end) for start, end, step in steps(web, filling) if step[0] != tie], place)


def is_ring(web, filling, value):
    if not is_listed(value) or len(value) == 0:
        return False
    there = {step: (start, end) for start, end, step in steps(web, filling)}
    for step in value:
        if type(step) is not tuple or len(step) != 2 or not is_int(step[0]) or not is_int(step[1]) or step not in there:
            return False
    ends = [there[step] for step in value]
    closed = all(ends[at - 1][1] == ends[at][0] for at in range(len(ends)))
    return closed and len({tie for tie, _ in value}) == len(value)


def joined(web, place, without=()):
    """All places that ties, followed either way, join to the place."""
    pairs = [tie[:2] for at, tie in enumerate(web.ties) if at not in without]
    return reached(pairs + [(end, start) for start, end in pairs], place)


def in_closed_ring(web, tie, without=()):
    """Whether other ties join both ends of the tie."""
    return web.ties[tie][1] in joined(web, web.ties[tie][0], tuple(without) + (tie,))


def has_closed_ring(web, without=()):
    return any(in_closed_ring(web, tie, without) for tie in range(len(web.ties)) if tie not in without)


def random_web(rolls, most_places=5, most_ties=6, most_room=3):
    places = rolls.randint(2, most_places)
    ties = []
    for _ in range(rolls.randint(0, most_ties)):
        start, end = sorted(rolls.sample(range(places), 2))
        least = rolls.randint(-4, 4)
        ties.append((start, end, least, least + rolls.randint(0, most_room)))
    if ties and rolls.random() < 0.3:
        ties[-1] = ties[0]
    return Web(places, ties)


def random_filling(rolls, web):
    return [rolls.randint(least, most) for _, _, least, most in web.ties]


def random_webs(seed, times, most_fillings=400, **more):
    """Webs of which all fillings can be searched."""
    rolls = random.Random(seed)
    found = [SMALL, BARE, EIGHT]
    while len(found) < times:
        web = random_web(rolls, **more)
        if len(fillings(web)) <= most_fillings:
            found.append(web)
    return found


def webs_and_fillings(seed, times, each=2, **more):
    rolls = random.Random(seed)
    return [(web, random_filling(rolls, web)) for web in random_webs(seed, times, **more) for _ in range(each)]


def large_web(rolls, most=100):
    ties = []
    for _ in range(16):
        start, end = sorted(rolls.sample(range(12), 2))
        least, greatest = sorted([rolls.randint(-most, most), rolls.randint(-most, most)])
        ties.append((start, end, least, greatest))
    return Web(12, ties)
