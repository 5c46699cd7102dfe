"""Routes from place to place by steps, tuples of where they start and end, a price and a name."""


def cheapest_routes(steps, starts):
    """For each place that is reached from the starts, the tuple of the least price and the names of such a route.

    Prices may be below 0, but no steps may lead round for less than nothing. No route comes to a place twice.
    """
    found = {place: (0, []) for place in starts}
    changed = True
    while changed:
        changed = False
        for start, end, price, name in steps:
            if start in found:
                so_far, route = found[start]
                if end not in found or so_far + price < found[end][0]:
                    found[end] = (so_far + price, route + [name])
                    changed = True
    return found
