"""How much more or less a tie can have, and fillings that show given signs."""

from oneforone.balance import balanced
from oneforone.checks import are_whole, is_list, is_set, is_tuple, is_whole
from oneforone.errors import InvalidNumber, InvalidSigns
from oneforone.failures import Beyond, NoFilling
from oneforone.rings import pushed, room, step_ends, turn
from oneforone.webs import check_tied, cut_sums, is_filling


def _turned(web, filling, tie, way, number):
    """The list of the alike filling with the tie as near to the number as rings this way lead, and the next turn."""
    found = list(filling)
    after = turn(web, found, tie, way)
    while found[tie] != number and after[0] == "ring":
        ring = after[1]
        times = min([way * (number - found[tie])] + [room(web, found, step) for step in ring])
        found = pushed(found, ring, times)
        after = turn(web, found, tie, way)
    return found, after


def _bound(web, tie, way):
    """The tie's most, or its least for the way -1."""
    return web.ties[tie][3] if way == 1 else web.ties[tie][2]


def _furthest(web, filling, tie, way):
    found, after = _turned(web, filling, tie, way, _bound(web, tie, way))
    return tuple(found), after[1] if after[0] == "shut" else []


def highest(web, filling, tie):
    """An alike filling with the greatest value of the tie, and places that show that there is no greater one."""
    check_tied(web, filling, tie)
    return _furthest(web, filling, tie, 1)


def lowest(web, filling, tie):
    """An alike filling with the least value of the tie, and places that show that there is no lesser one."""
    check_tied(web, filling, tie)
    return _furthest(web, filling, tie, -1)


def leaving(web, places):
    """The list of the ties that start in the places and end outside of them."""
    return [tie for tie, (start, end, _, _) in enumerate(web.ties) if start in places and end not in places]


def entering(web, places):
    """The list of the ties that start outside of the places and end in them."""
    return [tie for tie, (start, end, _, _) in enumerate(web.ties) if start not in places and end in places]


def _are_shut(web, filling, tie, way, places):
    """Whether the places hold the tie's value: no step over another tie leads out of them."""
    start, end = step_ends(web, (tie, way))
    if not is_set(places, web.places) or end not in places or start in places:
        return False
    steps = [(other, 1) for other in leaving(web, places)] + [(other, -1) for other in entering(web, places)]
    return all([room(web, filling, step) == 0 for step in steps if step[0] != tie])


def _is_furthest(web, filling, tie, way, value):
    if not is_tuple(value, 2) or not is_filling(web, value[0]):
        return False
    other, places = value
    if cut_sums(web, other) != cut_sums(web, filling):
        return False
    if other[tie] == _bound(web, tie, way):
        return is_list(places, 0, 0)
    return _are_shut(web, other, tie, way, places)


def is_highest(web, filling, tie, value):
    """Whether it is a tuple that `highest` may return."""
    check_tied(web, filling, tie)
    return _is_furthest(web, filling, tie, 1, value)


def is_lowest(web, filling, tie, value):
    """Whether it is a tuple that `lowest` may return."""
    check_tied(web, filling, tie)
    return _is_furthest(web, filling, tie, -1, value)


def _span(web, filling, tie):
    least, greatest = [_furthest(web, filling, tie, way)[0][tie] for way in (-1, 1)]
    return least, greatest


def span(web, filling, tie):
    """The least and the greatest value of the tie in alike fillings."""
    check_tied(web, filling, tie)
    return _span(web, filling, tie)


def level(web, filling, tie, number):
    """Any alike filling in which the tie has this value."""
    check_tied(web, filling, tie)
    if not is_whole(number):
        raise InvalidNumber(number)
    least, greatest = _span(web, filling, tie)
    if not least <= number <= greatest:
        raise Beyond(least, greatest)
    way = 1 if number > filling[tie] else -1
    return tuple(_turned(web, filling, tie, way, number)[0])


def _needs(web, signs):
    """For each place the sign of the cut behind it less that of the cut ahead of it."""
    return [behind - ahead for behind, ahead in zip([*signs, 0], [0, *signs])]


def _check_signs(web, signs):
    if not is_list(signs, web.places - 1, web.places - 1) or not are_whole(signs):
        raise InvalidSigns(signs)


def fitting(web, signs):
    """Any filling that shows these signs."""
    _check_signs(web, signs)
    least = [tie[2] for tie in web.ties]
    found, places = balanced(web, least, _needs(web, signs), [0] * len(web))
    if places:
        raise NoFilling(places)
    return tuple(found)


def _borne(web, places):
    """The tuple of what the ties of the places bear at least and at most."""
    out, into = leaving(web, places), entering(web, places)
    least = sum([web.ties[tie][2] for tie in out]) - sum([web.ties[tie][3] for tie in into])
    most = sum([web.ties[tie][3] for tie in out]) - sum([web.ties[tie][2] for tie in into])
    return least, most


def is_no_filling(web, signs, value):
    """Whether it is a list of places that need more than their ties bear at most, or less than they bear at least."""
    _check_signs(web, signs)
    if not is_set(value, web.places, 0):
        return False
    needs = _needs(web, signs)
    least, most = _borne(web, value)
    return not least <= sum([needs[place] for place in value]) <= most
