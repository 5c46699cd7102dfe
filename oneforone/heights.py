"""Held cuts: which places they make one, what they cost, and the heights that show that nothing cheaper will do."""

from oneforone.checks import are_between, are_whole, is_list, is_set
from oneforone.errors import InvalidPrices
from oneforone.routes import cheapest_routes


def are_cuts(web, value):
    """Whether it is an ascending list of unlike cuts of the web."""
    return is_set(value, web.places - 1, 0)


def are_prices(value, many):
    """Whether it is a list of so many prices."""
    return is_list(value, many, many) and are_between(value, 0, 1000)


def cut_prices(web, prices):
    """The list of the prices of the cuts, 1 for each if none are given."""
    if prices is None:
        return [1] * (web.places - 1)
    if not are_prices(prices, web.places - 1):
        raise InvalidPrices(prices)
    return list(prices)


def price_of(prices, chosen):
    """The sum of the prices of these cuts or ties."""
    return sum([prices[at] for at in chosen])


def places_made_one(web, cuts):
    """For each place its new number if the places beside these cuts count as one."""
    found = [0]
    for cut in range(web.places - 1):
        found.append(found[-1] if cut in cuts else found[-1] + 1)
    return found


def lead_to(web, cuts, steps, start, end):
    """Whether the steps, tuples of two places, lead from the one place to the other one if the cuts are held."""
    made = places_made_one(web, cuts)
    return made[end] in cheapest_routes([(made[here], made[there], 1, None) for here, there in steps], [made[start]])


def cheapest_cuts(web, steps, prices, start, end):
    """The cheapest list of cuts such that the steps lead from start to end if they are held, and the heights there.

    A height is what it costs to get to the place from the start, if each cut is crossed for its price.
    """
    free = [(here, there, 0, None) for here, there in steps]
    up = [(cut, cut + 1, price, cut) for cut, price in enumerate(prices)]
    down = [(cut + 1, cut, price, cut) for cut, price in enumerate(prices)]
    routes = cheapest_routes(free + up + down, [start])
    cuts = sorted([cut for cut in routes[end][1] if cut is not None])
    return cuts, tuple([routes[place][0] for place in range(web.places)])


def are_heights(web, steps, prices, value):
    """Whether it is an integer for each place, such that no step leads up and none differs too much beside a cut."""
    if not is_list(value, web.places, web.places) or not are_whole(value):
        return False
    beside = [abs(value[cut] - value[cut + 1]) <= price for cut, price in enumerate(prices)]
    return all(beside + [value[there] <= value[here] for here, there in steps])
