"""Links between stints, and what they join: strands, joints and pieces."""

from oneforone.checks import are_whole, check_size, is_set
from oneforone.errors import InvalidSet
from oneforone.failures import NotALink
from oneforone.joins import joined
from oneforone.scenes import check_ask, check_reader, check_stint


def _rests(scene, reader):
    """For each lot less one of its stints, the list of the tuples of this stint and an ask that has both."""
    found = {}
    for ask, lot in enumerate(scene.readers[reader][1]):
        for at, stint in enumerate(lot):
            found.setdefault(lot[:at] + lot[at + 1:], []).append((stint, ask))
    return found


def _asks_by_link(scene, reader):
    """For each link the least tuple of two asks that link its stints."""
    found = {}
    for rest, ends in _rests(scene, reader).items():
        for p, ask in ends:
            for q, other in ends:
                if p < q:
                    link = (len(rest) + 1, p, q)
                    found[link] = min(found.get(link, (ask, other)), (ask, other))
    return found


def links(scene, reader):
    """The ascending list of the tuples (size, p, q) of stints that are linked for the reader."""
    check_reader(scene, reader)
    return sorted(_asks_by_link(scene, reader))


def link_asks(scene, reader, link):
    """The least tuple of two asks that link two stints."""
    check_reader(scene, reader)
    found = _asks_by_link(scene, reader)
    if not isinstance(link, tuple) or not are_whole(link) or link not in found:
        raise NotALink(link)
    return found[link]


def strands(scene, reader, size):
    """The ascending list of the strands of a reader and a size."""
    check_reader(scene, reader)
    check_size(size, 1, 6)
    return joined([[p, q] for linked, p, q in links(scene, reader) if linked == size])


def joints(scene):
    """The ascending list of the joints."""
    groups = [[stint] for stint in range(scene.stints)]
    for reader in range(len(scene.readers)):
        groups.extend([[p, q] for _, p, q in links(scene, reader)])
    return joined(groups)


def joint_of(scene, stint):
    """The index of the joint that has a stint."""
    check_stint(scene, stint)
    having = [place for place, joint in enumerate(joints(scene)) if stint in joint]
    return having[0]


def pieces(scene, reader):
    """The ascending list of the pieces of the asks of a reader."""
    check_reader(scene, reader)
    lots = scene.readers[reader][1]
    groups = [[ask for _, ask in ends] for ends in _rests(scene, reader).values()]
    # Empty lots have no stint less, but are equal.
    empty = [ask for ask, lot in enumerate(lots) if len(lot) == 0]
    return joined(groups + [empty])


def number(scene, reader, ask, stints):
    """How many of the stints the lot of an ask has."""
    check_ask(scene, reader, ask)
    if not is_set(stints, scene.stints, 0):
        raise InvalidSet(stints)
    lot = scene.readers[reader][1][ask]
    return len([stint for stint in stints if stint in lot])
