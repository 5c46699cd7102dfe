"""Webs of places and ties, their fillings, and what these show."""

from oneforone.checks import are_whole, is_between, is_list, is_tuple
from oneforone.errors import InvalidFilling, InvalidPlaces, InvalidTie, InvalidTies


def _is_tie(places, value):
    """Whether it is a tuple of two of so many places, in order, and of a least and a most."""
    if not is_tuple(value, 4) or not are_whole(value):
        return False
    start, end, least, most = value
    return 0 <= start < end < places and -100 <= least <= most <= 100


class Web:
    """A number of places, and the ties as tuples of where they start and end, their least and their most."""

    def __init__(self, places, ties):
        if not is_between(places, 2, 12):
            raise InvalidPlaces(places)
        if not is_list(ties, 0, 16) or not all([_is_tie(places, tie) for tie in ties]):
            raise InvalidTies(ties)
        self.places = places
        self.ties = tuple(ties)

    def __len__(self):
        return len(self.ties)

    def __eq__(self, other):
        return isinstance(other, Web) and self.places == other.places and self.ties == other.ties


def is_filling(web, value):
    """Whether it is a list of an integer for each tie, from its least to its most."""
    if not is_list(value, len(web), len(web)):
        return False
    return all([is_between(item, least, most) for item, (_, _, least, most) in zip(value, web.ties)])


def check_filling(web, filling):
    """Raise InvalidFilling unless it is a filling of the web."""
    if not is_filling(web, filling):
        raise InvalidFilling(filling)


def check_tie(web, tie):
    """Raise InvalidTie unless it is a tie of the web."""
    if not is_between(tie, 0, len(web) - 1):
        raise InvalidTie(tie)


def check_tied(web, filling, tie):
    """Raise InvalidFilling or InvalidTie unless these are a filling and a tie of the web."""
    check_filling(web, filling)
    check_tie(web, tie)


def cut_sums(web, values):
    """The tuple of the sums of the values, one for each tie, over each cut."""
    over = [[value for value, tie in zip(values, web.ties) if tie[0] <= cut < tie[1]]
            for cut in range(web.places - 1)]
    return tuple([sum(each) for each in over])


def shown(web, filling):
    """The tuple of the signs of all cuts."""
    check_filling(web, filling)
    return cut_sums(web, filling)


def alike_fillings(web, one, other):
    """Whether two fillings show the same signs."""
    check_filling(web, one)
    check_filling(web, other)
    return cut_sums(web, one) == cut_sums(web, other)


def net_sums(web, values):
    """For each place the sum of the values of the ties that start there less that of those that end there."""
    found = [0] * web.places
    for value, tie in zip(values, web.ties):
        found[tie[0]] += value
        found[tie[1]] -= value
    return found


def is_flow(web, value):
    """Whether it is a list of an integer for each tie, of which as much ends at each place as starts there."""
    if not is_list(value, len(web), len(web)) or not are_whole(value):
        return False
    return all([net == 0 for net in net_sums(web, value)])
