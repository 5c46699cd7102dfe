"""When counts tell every history, and when a trade keeps a stint open."""

from oneforone.blocks import sharp
from oneforone.boards import like_bags
from oneforone.checks import is_between
from oneforone.failures import NoAsks, NoSuchTrade, NotCounts, NotOpen, Pieces, UnsharpReader
from oneforone.linked_sizes import linked_sizes
from oneforone.links import joints, number, pieces
from oneforone.scenes import check_stint
from oneforone.trades import like_sum_places
from oneforone.ways import histories_alike, telling_history


def numbers_of(scene, reader):
    """For each joint how many of its stints the reader's first ask has."""
    parts = pieces(scene, reader)
    if len(parts) == 0:
        raise NoAsks(reader)
    if len(parts) > 1:
        raise Pieces(reader)
    return [number(scene, reader, 0, joint) for joint in joints(scene)]


def _with_ones(scene, places):
    """The history with the value 1 at the joints of these places, and 0 at the others."""
    found = joints(scene)
    ones = [stint for place in places for stint in found[place]]
    return tuple([int(stint in ones) for stint in range(scene.stints)])


def every_history(scene):
    """Two unlike histories that are alike, or None if counts tell every history."""
    numbers = numbers_of(scene, 0)
    board = scene.board(0, len(scene.readers[0][1][0]))
    if len(like_bags(board)) < len(board):
        raise NotCounts(0)
    found = like_sum_places(numbers)
    if scene.many == 1 or found is None:
        return None
    # Each ask has as many stints of a joint as the first one, so equal sums are equal bags at all asks.
    return _with_ones(scene, found[0]), _with_ones(scene, found[1])


def _last_lot(scene):
    """The last lot of the only reader, or the empty one if nothing is asked."""
    asks = scene.readers[0][1]
    return asks[-1] if asks else ()


def _check_sharp(scene):
    """Raise UnsharpReader unless the board is sharp at all sizes with links, and at that of the last lot."""
    last = len(_last_lot(scene))
    sizes = [size for _, size in linked_sizes(scene)] + ([last] if last else [])
    for size in sorted(sizes):
        if not sharp(scene.board(0, size)):
            raise UnsharpReader(0, size)


def _next_lot(scene, out, into):
    """The last lot with the one stint in the place of the other one."""
    lot = _last_lot(scene)
    stints = scene.stints - 1
    if not is_between(out, 0, stints) or not is_between(into, 0, stints) or out not in lot or into in lot:
        raise NoSuchTrade(out, into)
    return sorted([stint for stint in lot if stint != out] + [into])


def gate(scene, history, stint, out, into):
    """Whether the stint stays open in all alike histories if one more trade is shown."""
    found = histories_alike(scene, history)
    _check_sharp(scene)
    check_stint(scene, stint)
    lot = _next_lot(scene, out, into)
    if all([each[stint] == history[stint] for each in found]):
        raise NotOpen(stint)
    return telling_history(scene, found, stint, 0, lot) is None
