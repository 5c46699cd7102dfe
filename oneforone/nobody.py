"""Stints that meet nobody, joints that are known by them, and the shifts of the other joints."""

from oneforone.comers import unclear
from oneforone.dials import Dials, check_unlike_marks, difference, rests_on, same_marks
from oneforone.failures import NotDials, NotLive, TooMany, UnclearReader
from oneforone.linked_sizes import check_seen_readers
from oneforone.links import joints, number
from oneforone.scenes import check_history, check_reader
from oneforone.totals import Total
from oneforone.ways import joint_ways, product_of


def _alone(scene, reader):
    """All tuples of a size and a stint such that a lot of this size, and this lot without the stint, are asked."""
    lots = scene.readers[reader][1]
    return [(len(lot), stint) for lot in lots for at, stint in enumerate(lot) if lot[:at] + lot[at + 1:] in lots]


def nobody(scene, reader):
    """The ascending list of the stints that meet nobody for the reader."""
    check_reader(scene, reader)
    return sorted(set([stint for _, stint in _alone(scene, reader)]))


def _places(scene, wanted):
    """The ascending list of the places of the joints that are met, or of those that are not."""
    alone = [stint for reader in range(len(scene.readers)) for stint in nobody(scene, reader)]
    return [place for place, joint in enumerate(joints(scene))
            if any([stint in alone for stint in joint]) == wanted]


def closed(scene):
    """The ascending list of the places of the closed joints."""
    return _places(scene, False)


def _is_clear(source, size):
    """Whether the source is clear at the size; it is no board, as these have signs at one size alone."""
    if isinstance(source, Total):
        return unclear(source, size) is None
    # Of bags with equal sums, equal sums with two unlike values more are equal marks of these.
    return same_marks(source) is None


def _check_clear_readers(scene):
    for reader, (source, _) in enumerate(scene.readers):
        for size in sorted(set([asked for asked, _ in _alone(scene, reader)])):
            if not _is_clear(source, size):
                raise UnclearReader(reader, size)


def met(scene):
    """The ascending list of the places of the met joints."""
    check_seen_readers(scene)
    _check_clear_readers(scene)
    return _places(scene, True)


def _closed_numbers(scene, history):
    """The dict of the place of each closed joint and its number."""
    dials, asks = scene.readers[0]
    if not isinstance(dials, Dials):
        raise NotDials(0)
    check_unlike_marks(dials)
    check_history(scene, history)
    found = joints(scene)
    numbers = {}
    for place in closed(scene):
        told = [number(scene, 0, ask, found[place]) for ask in range(len(asks))]
        if len(set(told)) > 1:
            raise NotLive(place)
        numbers[place] = told[0] if told else 0
    return numbers


def closed_ways(scene, history):
    """For each closed joint the list of its ways."""
    numbers = _closed_numbers(scene, history)
    found = joint_ways(scene, history)
    return [found[place][1] for place in numbers]


def closed_shifts(scene, history):
    """For each closed joint the tuple of its number and the ascending list of the shifts of its ways."""
    numbers = _closed_numbers(scene, history)
    found = joint_ways(scene, history)
    dials = scene.readers[0][0]
    shifts = []
    for place, times in numbers.items():
        joint, choices = found[place]
        here = history[joint[0]]
        shifts.append((times, sorted([difference(dials, choice[0], here) for choice in choices])))
    return shifts


def count_shifted(scene, history):
    """How many choices of a shift for each closed joint add up to nothing, each taken as often as its number."""
    parts = closed_shifts(scene, history)
    many = product_of([len(shifts) for _, shifts in parts])
    if many > 1024:
        raise TooMany(many)
    rounds = scene.readers[0][0].rounds
    none = rests_on(rounds, [0 for _ in rounds])
    counts = {none: 1}
    for times, shifts in parts:
        after = {}
        for total, count in counts.items():
            for shift in shifts:
                reached = rests_on(rounds, [a + times * b for a, b in zip(total, shift)])
                after[reached] = after.get(reached, 0) + count
        counts = after
    return counts[none]
