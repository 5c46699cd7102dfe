"""What tells two histories apart, and which values go along with one another."""

from oneforone.blocks import blocks
from oneforone.checks import are_whole, check_value, is_between
from oneforone.failures import Barred
from oneforone.linked_sizes import check_even_readers, check_seen_readers, linked_sizes
from oneforone.links import links, pieces, strands
from oneforone.scenes import check_history, check_stint, lot_sign


def _check_histories(scene, one, other):
    check_history(scene, one)
    check_history(scene, other)


def _in_one(parts, one, other):
    """Whether one of the parts has both changes."""
    return any([one in part and other in part for part in parts])


def _apart(scene, one, other):
    changes = list(zip(one, other))
    for reader, size in linked_sizes(scene):
        parts = blocks(scene.board(reader, size))
        for linked, p, q in links(scene, reader):
            if linked == size and not _in_one(parts, changes[p], changes[q]):
                return reader, size, p, q
    return None


def apart(scene, one, other):
    """The least tuple (reader, size, p, q) of linked stints whose changes are in no one block, or None."""
    _check_histories(scene, one, other)
    return _apart(scene, one, other)


def _tells(scene, reader, ask, one, other):
    """Whether the ask has unlike signs in the two histories."""
    lot = scene.readers[reader][1][ask]
    return lot_sign(scene, reader, lot, one) != lot_sign(scene, reader, lot, other)


def first_asks(scene):
    """The ascending list of the tuples of a reader and the least ask of one of its pieces."""
    return [(reader, piece[0]) for reader in range(len(scene.readers)) for piece in pieces(scene, reader)]


def bar(scene, one, other):
    """Any bar of the two histories, or None."""
    check_even_readers(scene)
    _check_histories(scene, one, other)
    strand = _apart(scene, one, other)
    if strand is not None:
        return ("strand",) + strand
    telling = [("ask", reader, ask) for reader, ask in first_asks(scene) if _tells(scene, reader, ask, one, other)]
    return telling[0] if telling else None


def _is_strand_bar(scene, one, other, value):
    """Whether the tuple (reader, size, p, q) has linked stints whose changes are in no one kind."""
    reader, size, p, q = value
    if not is_between(reader, 0, len(scene.readers) - 1) or (size, p, q) not in links(scene, reader):
        return False
    return not _in_one(blocks(scene.board(reader, size)), (one[p], other[p]), (one[q], other[q]))


def is_bar(scene, one, other, value):
    """Whether it is a bar of the two histories."""
    check_even_readers(scene)
    _check_histories(scene, one, other)
    if not isinstance(value, tuple) or len(value) == 0 or not are_whole(value[1:]):
        return False
    if value[0] == "strand" and len(value) == 5:
        return _is_strand_bar(scene, one, other, value[1:])
    if value[0] == "ask" and value[1:] in first_asks(scene):
        return _tells(scene, value[1], value[2], one, other)
    return False


def strand_steps(scene):
    """For each strand of each reader its stints, and for each change of its board the dict of the kind's changes."""
    found = []
    for reader, size in linked_sizes(scene):
        kinds = [dict(block) for block in blocks(scene.board(reader, size))]
        steps = {change: kind for kind in kinds for change in kind.items()}
        found.extend([(strand, steps) for strand in strands(scene, reader, size)])
    return found


def _forced_next(steps, history, p, v):
    """The tuples of a stint and a value or None that are forced by the value v at the stint p."""
    found = []
    for strand, kinds in steps:
        if p in strand:
            kind = kinds.get((history[p], v), {})
            found.extend([(q, kind.get(history[q])) for q in strand if q != p])
    return found


def forced(steps, history, stint, value):
    """For each stint that is forced, the list of the values and None with which it is, by the strands' steps."""
    found = {stint: [value]}
    waiting = [(stint, value)]
    while waiting:
        p, v = waiting.pop()
        for q, w in _forced_next(steps, history, p, v):
            if w not in found.setdefault(q, []):
                found[q].append(w)
                if w is not None:
                    waiting.append((q, w))
    return found


def barred(found):
    """The ascending list of the stints that are forced with None or with two values."""
    return [stint for stint in sorted(found) if None in found[stint] or len(found[stint]) > 1]


def gone_along(scene, history, stint, value):
    """The tuple of the tuples of a stint and the value that it has if the stint has the value."""
    check_seen_readers(scene)
    check_history(scene, history)
    check_stint(scene, stint)
    check_value(value, scene.many)
    found = forced(strand_steps(scene), history, stint, value)
    wrong = barred(found)
    if wrong:
        raise Barred(wrong[0])
    return tuple([(each, found[each][0]) for each in sorted(found)])
