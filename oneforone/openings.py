"""Ties that are opened, so that all values are told."""

from oneforone.checks import is_set
from oneforone.errors import InvalidPrices, InvalidSet
from oneforone.failures import NoRing, StuckTie
from oneforone.heights import are_prices, price_of
from oneforone.rest_webs import ring_over
from oneforone.routes import cheapest_routes


def _are_ties(web, value):
    return is_set(value, len(web), 0)


def _closed_ring(web, ties):
    for tie in range(len(web)):
        ring = ring_over(web, tie, ties) if tie not in ties else None
        if ring is not None:
            return ring
    return None


def closed_ring(web, ties):
    """Any closed ring of other ties than the opened ones, or None."""
    if not _are_ties(web, ties):
        raise InvalidSet(ties)
    return _closed_ring(web, ties)


def tells_all(web, ties):
    """Whether the other ties have no closed ring."""
    return closed_ring(web, ties) is None


def other_fillings(web, ties):
    """Any two alike fillings that are not equal, but equal at the opened ties."""
    ring = closed_ring(web, ties)
    for tie, (_, _, least, most) in enumerate(web.ties):
        if least == most:
            raise StuckTie(tie)
    if ring is None:
        raise NoRing()
    ways = dict(ring)
    least = [(tie[2], ways.get(at, 0)) for at, tie in enumerate(web.ties)]
    one = tuple([value + int(way == -1) for value, way in least])
    other = tuple([value + int(way == 1) for value, way in least])
    return one, other


def _check_prices(web, prices):
    if not are_prices(prices, len(web)):
        raise InvalidPrices(prices)


def _cheapest(web, prices):
    """The ties that close a ring with dearer ones, which are kept; so the ones that are kept are the dearest."""
    kept = []
    for _, tie in sorted([(-price, tie) for tie, price in enumerate(prices)]):
        ends = [web.ties[other][:2] for other in kept]
        steps = [(start, end, 1, None) for start, end in ends] + [(end, start, 1, None) for start, end in ends]
        if web.ties[tie][1] not in cheapest_routes(steps, [web.ties[tie][0]]):
            kept.append(tie)
    return [tie for tie in range(len(web)) if tie not in kept]


def cheapest_openings(web, prices):
    """Any ties that tell all if they are opened, with the least sum of prices."""
    _check_prices(web, prices)
    return _cheapest(web, prices)


def is_cheapest_openings(web, prices, value):
    """Whether it is a list of ties that tells all, with the least sum of prices."""
    _check_prices(web, prices)
    if not _are_ties(web, value) or _closed_ring(web, value) is not None:
        return False
    return price_of(prices, value) == price_of(prices, _cheapest(web, prices))
