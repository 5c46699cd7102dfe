"""Fillings that are made to show what they should, along routes of steps with room."""

from oneforone.rings import open_steps, pushed, room, step_ends
from oneforone.routes import cheapest_routes
from oneforone.webs import net_sums


def gain(weights, step):
    """How much the sum of weight times value grows by the step."""
    tie, way = step
    return way * weights[tie]


def _priced(web, filling, weights):
    """All steps with prices by which routes are found with the greatest gain, and of these the ones with fewest steps.

    As no route has 16 steps, the 1 for each of them counts only between routes of equal gain.
    """
    return [step_ends(web, step) + (1 - 16 * gain(weights, step), step) for step in open_steps(web, filling)]


def balanced(web, filling, needs, weights):
    """The tuple of a list of values, and the places that still need more than they can have.

    The values come from the filling's by routes from places that need more, each of greatest gain. If the filling has
    no ring by which the sum of weight times value grows, the list has none either.
    """
    found = list(filling)
    while True:
        lacks = [need - have for need, have in zip(needs, net_sums(web, found))]
        routes = cheapest_routes(_priced(web, found, weights), [place for place, lack in enumerate(lacks) if lack > 0])
        over = [place for place in routes if lacks[place] < 0]
        if len(over) == 0:
            return found, sorted(routes)
        route = routes[over[0]][1]
        start = step_ends(web, route[0])[0]
        times = min([lacks[start], -lacks[over[0]]] + [room(web, found, step) for step in route])
        found = pushed(found, route, times)
