"""Signs that are held back, so that a tie stays open."""

from oneforone.checks import is_tuple
from oneforone.errors import InvalidCuts
from oneforone.failures import OnePlace, StuckTie
from oneforone.heights import are_cuts, are_heights, cheapest_cuts, cut_prices, lead_to, places_made_one, price_of
from oneforone.rings import open_steps, room, step_ends
from oneforone.webs import Web, check_filling, check_tied


def _check_cuts(web, cuts):
    if not are_cuts(web, cuts):
        raise InvalidCuts(cuts)


def held(web, cuts):
    """The web in which the places beside the cuts are one, and the ties that it keeps."""
    _check_cuts(web, cuts)
    if len(cuts) == web.places - 1:
        raise OnePlace()
    made = places_made_one(web, cuts)
    kept = [tie for tie, (start, end, _, _) in enumerate(web.ties) if made[start] != made[end]]
    ties = [(made[web.ties[tie][0]], made[web.ties[tie][1]]) + web.ties[tie][2:] for tie in kept]
    return Web(made[-1] + 1, ties), kept


def _other_steps(web, filling, tie):
    """Where the steps over other ties start and end."""
    return [step_ends(web, step) for step in open_steps(web, filling) if step[0] != tie]


def _is_open(web, filling, cuts, tie):
    """Whether the tie has another value in some filling that shows the same but at these cuts."""
    steps = _other_steps(web, filling, tie)
    for way in (1, -1):
        start, end = step_ends(web, (tie, way))
        if room(web, filling, (tie, way)) > 0 and lead_to(web, cuts, steps, end, start):
            return True
    return False


def open_behind(web, filling, cuts):
    """The ascending list of the ties that are open if these cuts are held."""
    check_filling(web, filling)
    _check_cuts(web, cuts)
    return [tie for tie in range(len(web)) if _is_open(web, filling, cuts, tie)]


def cheapest_held(web, filling, tie, prices=None):
    """The cheapest cuts such that the tie is open if they are held, and the heights that show it, up and down."""
    check_tied(web, filling, tie)
    told = cut_prices(web, prices)
    if web.ties[tie][2] == web.ties[tie][3]:
        raise StuckTie(tie)
    steps = _other_steps(web, filling, tie)
    heights = []
    choices = []
    for way in (1, -1):
        start, end = step_ends(web, (tie, way))
        if room(web, filling, (tie, way)) == 0:
            heights.append(None)
        else:
            cuts, found = cheapest_cuts(web, steps, told, end, start)
            heights.append(found)
            choices.append((found[start], cuts))
    return min(choices)[1], heights[0], heights[1]


def _heights_at(web, filling, tie, way, prices, value):
    """What the heights say that it costs at least to let the tie go this way, or None if they are no such heights."""
    start, end = step_ends(web, (tie, way))
    if not are_heights(web, _other_steps(web, filling, tie), prices, value) or value[end] != 0:
        return None
    return value[start]


def is_cheapest_held(web, filling, tie, value, prices=None):
    """Whether it is a tuple that `cheapest_held` may return."""
    check_tied(web, filling, tie)
    told = cut_prices(web, prices)
    if not is_tuple(value, 3) or not are_cuts(web, value[0]):
        return False
    least = []
    for way, heights in ((1, value[1]), (-1, value[2])):
        if room(web, filling, (tie, way)) > 0:
            least.append(_heights_at(web, filling, tie, way, told, heights))
        elif heights is not None:
            return False
    if len(least) == 0 or None in least or price_of(told, value[0]) != min(least):
        return False
    return _is_open(web, filling, value[0], tie)
