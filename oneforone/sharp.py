"""Sharp readers: chains of links from unlike values, and joints of one value."""

from oneforone.checks import are_whole, is_list, is_tuple
from oneforone.linked_sizes import check_sharp_readers
from oneforone.links import joints, links
from oneforone.scenes import check_history, check_stint


def _steps(scene):
    """All tuples (reader, size, p, q) of linked stints, followed either way."""
    found = []
    for reader in range(len(scene.readers)):
        for size, p, q in links(scene, reader):
            found.extend([(reader, size, p, q), (reader, size, q, p)])
    return found


def _check(scene, history, stint):
    check_sharp_readers(scene)
    check_history(scene, history)
    check_stint(scene, stint)


def chain(scene, history, stint):
    """Any chain to the stint in the history, or None."""
    _check(scene, history, stint)
    steps = _steps(scene)
    chains = {stint: []}
    waiting = [stint]
    while waiting:
        at = waiting.pop(0)
        for step in steps:
            if step[3] == at and history[step[2]] != history[at]:
                return [step] + chains[at]
            if step[3] == at and step[2] not in chains:
                chains[step[2]] = [step] + chains[at]
                waiting.append(step[2])
    return None


def is_chain(scene, history, stint, value):
    """Whether it is a chain to the stint in the history."""
    _check(scene, history, stint)
    if not is_list(value, 1) or not all([is_tuple(step, 4) and are_whole(step) for step in value]):
        return False
    steps = _steps(scene)
    if not all([step in steps for step in value]):
        return False
    first = value[0]
    followed = [step[3] == after[2] for step, after in zip(value, value[1:])]
    return history[first[2]] != history[first[3]] and all(followed) and value[-1][3] == stint


def one_valued(scene, history):
    """The ascending list of the places of the joints that have one value in the history."""
    check_history(scene, history)
    return [place for place, joint in enumerate(joints(scene)) if len(set([history[stint] for stint in joint])) == 1]
