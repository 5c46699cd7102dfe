"""Histories that look the same: the ways of joints, what is known, and what one more ask would tell."""

from oneforone.bars import barred, first_asks, forced, strand_steps
from oneforone.checks import is_between
from oneforone.errors import InvalidJoint
from oneforone.failures import TooMany
from oneforone.linked_sizes import check_seen_readers
from oneforone.links import joints
from oneforone.scenes import check_history, check_lot, check_stint, lot_sign


def _ways(scene, history, joint, steps):
    """The ascending list of the ways of a joint, which is given by its stints."""
    found = []
    for value in range(scene.many):
        along = forced(steps, history, joint[0], value)
        if not barred(along):
            found.append(tuple([along[stint][0] for stint in joint]))
    return found


def ways(scene, history, joint):
    """The ascending list of the tuples of values of a joint that go along with one another."""
    check_seen_readers(scene)
    check_history(scene, history)
    found = joints(scene)
    if not is_between(joint, 0, len(found) - 1):
        raise InvalidJoint(joint)
    return _ways(scene, history, found[joint], strand_steps(scene))


def product_of(numbers):
    """The product of the numbers, 1 if there are none."""
    found = 1
    for number in numbers:
        found = found * number
    return found


def joint_ways(scene, history):
    """The list of the tuples of a joint and its ways, for seen readers."""
    steps = strand_steps(scene)
    return [(joint, _ways(scene, history, joint, steps)) for joint in joints(scene)]


def _choices(scene, history):
    """All histories in which each joint has one of its ways."""
    parts = joint_ways(scene, history)
    many = product_of([len(choices) for _, choices in parts])
    if many > 1024:
        raise TooMany(many)
    found = [{}]
    for joint, choices in parts:
        chosen = [dict(zip(joint, choice)) for choice in choices]
        found = [{**values, **more} for values in found for more in chosen]
    return [tuple([values[stint] for stint in range(scene.stints)]) for values in found]


def _signs(scene, asks, history):
    """The signs of one ask of each piece; the joints' ways let the others of the piece follow."""
    return [lot_sign(scene, reader, scene.readers[reader][1][ask], history) for reader, ask in asks]


def histories_alike(scene, history):
    """The ascending list of all histories that are alike to the given one."""
    check_seen_readers(scene)
    check_history(scene, history)
    asks = first_asks(scene)
    signs = _signs(scene, asks, history)
    return sorted([each for each in _choices(scene, history) if _signs(scene, asks, each) == signs])


def count_alike(scene, history):
    """How many histories are alike to the given one."""
    return len(histories_alike(scene, history))


def _fates(scene, history):
    found = histories_alike(scene, history)
    return [tuple(sorted(set([each[stint] for each in found]))) for stint in range(scene.stints)]


def fates(scene, history):
    """For each stint the ascending tuple of the values that it has in the alike histories."""
    return _fates(scene, history)


def known(scene, history):
    """The ascending list of the stints that have one value in all alike histories."""
    return [stint for stint, fate in enumerate(_fates(scene, history)) if len(fate) == 1]


def twin(scene, history, stint):
    """Any alike history with another value at the stint, or None."""
    found = histories_alike(scene, history)
    check_stint(scene, stint)
    others = [each for each in found if each[stint] != history[stint]]
    return others[0] if others else None


def sure_same(scene, history, one, other):
    """Whether two stints have equal values in the alike histories: "always", "never" or "open"."""
    found = histories_alike(scene, history)
    check_stint(scene, one)
    check_stint(scene, other)
    same = [each[one] == each[other] for each in found]
    if all(same):
        return "always"
    return "open" if any(same) else "never"


def next_signs(scene, history, reader, lot):
    """The ascending list of the signs that the lot has for the reader in the alike histories."""
    found = histories_alike(scene, history)
    check_lot(scene, reader, lot)
    return sorted(set([lot_sign(scene, reader, lot, each) for each in found]))


def telling_history(scene, found, stint, reader, lot):
    """Any of the alike histories that are found in which the lot would tell the stint, or None if there is none."""
    by_sign = {}
    for each in found:
        by_sign.setdefault(lot_sign(scene, reader, lot, each), []).append(each)
    for same in by_sign.values():
        if all([each[stint] == same[0][stint] for each in same]):
            return same[0]
    return None


def stays_open(scene, history, stint, reader, lot):
    """Any alike history in which the lot would tell the stint, or None if there is none."""
    found = histories_alike(scene, history)
    check_stint(scene, stint)
    check_lot(scene, reader, lot)
    return telling_history(scene, found, stint, reader, lot)
