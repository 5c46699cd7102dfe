"""Steps over ties with room, and the rings of them by which fillings change unseen."""

from oneforone.checks import are_whole, is_list, is_tuple
from oneforone.errors import InvalidRing
from oneforone.routes import cheapest_routes
from oneforone.webs import check_filling, check_tied


def room(web, filling, step):
    """How much further the value of the step's tie can go its way."""
    tie, way = step
    _, _, least, most = web.ties[tie]
    return most - filling[tie] if way == 1 else filling[tie] - least


def step_ends(web, step):
    """The tuple of the places where the step starts and ends, with room or not."""
    tie, way = step
    start, end = web.ties[tie][:2]
    return (start, end) if way == 1 else (end, start)


def open_steps(web, filling):
    """The list of all steps that there are in the filling."""
    steps = [(tie, way) for tie in range(len(web)) for way in (1, -1)]
    return [step for step in steps if room(web, filling, step) > 0]


def routed(web, steps):
    """The steps with their ends, and one price for all of them, to find routes with as few as there can be."""
    return [step_ends(web, step) + (1, step) for step in steps]


def turn(web, filling, tie, way):
    """The ring of the tie this way, or that it is full, or the places to which the ring would be shut."""
    if room(web, filling, (tie, way)) == 0:
        return ("full",)
    start, end = step_ends(web, (tie, way))
    others = [step for step in open_steps(web, filling) if step[0] != tie]
    routes = cheapest_routes(routed(web, others), [end])
    if start in routes:
        return "ring", [(tie, way)] + routes[start][1]
    return "shut", sorted(routes)


def rise(web, filling, tie):
    """Any ring up of the tie, or why there is none."""
    check_tied(web, filling, tie)
    return turn(web, filling, tie, 1)


def fall(web, filling, tie):
    """Any ring down of the tie, or why there is none."""
    check_tied(web, filling, tie)
    return turn(web, filling, tie, -1)


def _is_ring(web, filling, value):
    if not is_list(value, 1) or not all([is_tuple(step, 2) and are_whole(step) for step in value]):
        return False
    if len(set([tie for tie, _ in value])) < len(value):
        return False
    there = open_steps(web, filling)
    if not all([step in there for step in value]):
        return False
    ends = [step_ends(web, step) for step in value]
    return all([before[1] == after[0] for before, after in zip(ends[-1:] + ends, ends)])


def is_ring(web, filling, value):
    """Whether it is a ring of some tie."""
    check_filling(web, filling)
    return _is_ring(web, filling, value)


def pushed(filling, steps, times):
    """The list of the filling's values with so much more or less at the ties of the steps."""
    found = list(filling)
    for tie, way in steps:
        found[tie] += way * times
    return found


def ringed(web, filling, ring):
    """The alike filling that has one more or less at the ties of the ring."""
    check_filling(web, filling)
    if not _is_ring(web, filling, ring):
        raise InvalidRing(ring)
    return tuple(pushed(filling, ring, 1))
