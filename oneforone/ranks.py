"""Numbers for things, the same for equal ones: by their order, or as they come."""


def ranks(things):
    """For each thing its place among the unlike ones, ascending."""
    unlike = sorted(set(things))
    places = {thing: place for place, thing in enumerate(unlike)}
    return [places[thing] for thing in things]


def first_ranks(things):
    """For each thing its place among the unlike ones, in the order in which they come first."""
    places = {}
    for thing in things:
        places.setdefault(thing, len(places))
    return [places[thing] for thing in things]
