"""The alike filling with the greatest sum, and the prices of places that show it."""

from oneforone.balance import balanced, gain
from oneforone.checks import are_between, are_whole, is_list, is_tuple
from oneforone.errors import InvalidWeights
from oneforone.failures import TooMany
from oneforone.rings import open_steps, step_ends
from oneforone.routes import cheapest_routes
from oneforone.webs import check_filling, cut_sums, is_filling, net_sums


def _check(web, filling, weights):
    check_filling(web, filling)
    if not is_list(weights, len(web), len(web)) or not are_between(weights, -1000, 1000):
        raise InvalidWeights(weights)


def _prices(web, filling, weights):
    """Prices of all places such that no step gains more than it leads up."""
    steps = [step_ends(web, step) + (-gain(weights, step), step) for step in open_steps(web, filling)]
    routes = cheapest_routes(steps, list(range(web.places)))
    return tuple([-routes[place][0] for place in range(web.places)])


def greatest_sum(web, filling, weights):
    """An alike filling with the greatest sum of weight times value, and prices that show that there is no greater."""
    _check(web, filling, weights)
    count = sum([most - least for _, _, least, most in web.ties])
    if count > 400:
        raise TooMany(count)
    # Whatever it shows, no filling has a greater sum than the one that is best at each tie.
    best = [most if weight > 0 else least for weight, (_, _, least, most) in zip(weights, web.ties)]
    found, _ = balanced(web, best, net_sums(web, filling), weights)
    return tuple(found), _prices(web, found, weights)


def is_greatest_sum(web, filling, weights, value):
    """Whether it is a tuple that `greatest_sum` may return."""
    _check(web, filling, weights)
    if not is_tuple(value, 2) or not is_filling(web, value[0]):
        return False
    other, prices = value
    if not is_list(prices, web.places, web.places) or not are_whole(prices):
        return False
    if cut_sums(web, other) != cut_sums(web, filling):
        return False
    ends = [(step, step_ends(web, step)) for step in open_steps(web, other)]
    return all([gain(weights, step) + prices[start] - prices[end] <= 0 for step, (start, end) in ends])
