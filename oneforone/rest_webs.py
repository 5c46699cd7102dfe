"""Webs whose values are rests, so that nothing counts but which ties are in closed rings."""

from oneforone.checks import are_between, is_between, is_list, is_tuple
from oneforone.errors import InvalidModulus, InvalidRests
from oneforone.heights import are_cuts, are_heights, cheapest_cuts, cut_prices, lead_to, price_of
from oneforone.joins import joined
from oneforone.routes import cheapest_routes
from oneforone.webs import check_tie, cut_sums


def _check_modulus(modulus):
    if not is_between(modulus, 2, 20):
        raise InvalidModulus(modulus)


def _check_rests(web, values, modulus):
    _check_modulus(modulus)
    if not is_list(values, len(web), len(web)) or not are_between(values, 0, modulus - 1):
        raise InvalidRests(values)


def rest_shown(web, values, modulus):
    """The tuple of the sums over the cuts, as rests."""
    _check_rests(web, values, modulus)
    return tuple([total % modulus for total in cut_sums(web, values)])


def ring_over(web, tie, told):
    """A closed ring of the tie and others, none of them among those that are told, or None."""
    steps = []
    for other, (start, end, _, _) in enumerate(web.ties):
        if other != tie and other not in told:
            steps.extend([(start, end, 1, (other, 1)), (end, start, 1, (other, -1))])
    start, end = web.ties[tie][:2]
    routes = cheapest_routes(steps, [end])
    return [(tie, 1)] + routes[start][1] if start in routes else None


def firm_ties(web):
    """The ascending list of the ties that are in no closed ring."""
    return [tie for tie in range(len(web)) if ring_over(web, tie, []) is None]


def parts(web):
    """The number of parts of the places that ties join."""
    return len(joined([[place] for place in range(web.places)] + [tie[:2] for tie in web.ties]))


def count_rests(web, modulus):
    """How many lists of rests show what any given one shows."""
    _check_modulus(modulus)
    found = 1
    for _ in range(len(web) - web.places + parts(web)):
        found = found * modulus
    return found


def rest_twin(web, values, modulus, tie):
    """Any rests that show the same, with another one of the tie, or None for a firm tie."""
    _check_rests(web, values, modulus)
    check_tie(web, tie)
    ring = ring_over(web, tie, [])
    if ring is None:
        return None
    found = list(values)
    for other, way in ring:
        found[other] = (found[other] + way) % modulus
    return tuple(found)


def _other_ends(web, tie):
    """Where the other ties start and end, followed either way."""
    ends = [each[:2] for other, each in enumerate(web.ties) if other != tie]
    return ends + [(end, start) for start, end in ends]


def cheapest_rest_held(web, tie, prices=None):
    """The cheapest cuts behind which the tie is firm no more, or that make its places one, and heights that show it."""
    check_tie(web, tie)
    told = cut_prices(web, prices)
    start, end = web.ties[tie][:2]
    return cheapest_cuts(web, _other_ends(web, tie), told, end, start)


def is_cheapest_rest_held(web, tie, value, prices=None):
    """Whether it is a tuple that `cheapest_rest_held` may return."""
    check_tie(web, tie)
    told = cut_prices(web, prices)
    steps = _other_ends(web, tie)
    if not is_tuple(value, 2) or not are_cuts(web, value[0]) or not are_heights(web, steps, told, value[1]):
        return False
    cuts, heights = value
    start, end = web.ties[tie][:2]
    return heights[end] == 0 and heights[start] == price_of(told, cuts) and lead_to(web, cuts, steps, end, start)
