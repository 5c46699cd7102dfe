"""Scenes: stints that have values, and readers who are shown the signs of lots of stints."""

from oneforone.checks import are_between, is_between, is_list, is_tuple
from oneforone.errors import InvalidAsk, InvalidHistory, InvalidLot, InvalidReader, InvalidReaders, InvalidStint
from oneforone.errors import InvalidStints
from oneforone.failures import TooMany
from oneforone.sources import board_of, is_source, may_ask, sign_of


def _is_reader(stints, value):
    """Whether it is a tuple of a source and a list of at most 60 lots that it has signs for."""
    if not is_tuple(value, 2) or not is_source(value[0]) or not is_list(value[1], 0, 60):
        return False
    return all([may_ask(value[0], stints, lot) for lot in value[1]])


def _are_readers(stints, value):
    if not is_list(value, 1, 3) or not all([_is_reader(stints, reader) for reader in value]):
        return False
    return all([source.many == value[0][0].many for source, _ in value])


class Scene:
    """A number of stints, and the readers as tuples of a source and the lots that are asked."""

    def __init__(self, stints, readers):
        if not is_between(stints, 1, 12):
            raise InvalidStints(stints)
        if not _are_readers(stints, readers):
            raise InvalidReaders(readers)
        self.stints = stints
        self.many = readers[0][0].many
        self.readers = tuple([(source, tuple([tuple(lot) for lot in asks])) for source, asks in readers])

    def __eq__(self, other):
        return isinstance(other, Scene) and self.stints == other.stints and self.readers == other.readers

    def board(self, reader, size):
        """The board that the source of the reader is for bags of this size."""
        check_reader(self, reader)
        return board_of(self.readers[reader][0], size)

    def sign(self, reader, ask, history):
        """The sign of an ask in a history."""
        bag = bag_at(self, reader, ask, history)
        return sign_of(self.readers[reader][0], bag)


def check_reader(scene, reader):
    """Raise InvalidReader unless it is a reader of the scene."""
    if not is_between(reader, 0, len(scene.readers) - 1):
        raise InvalidReader(reader)


def check_ask(scene, reader, ask):
    """Raise InvalidReader or InvalidAsk unless it is an ask of the reader."""
    check_reader(scene, reader)
    if not is_between(ask, 0, len(scene.readers[reader][1]) - 1):
        raise InvalidAsk(ask)


def check_history(scene, history):
    """Raise InvalidHistory unless it is a history of the scene."""
    if not is_history(scene, history):
        raise InvalidHistory(history)


def check_stint(scene, stint):
    """Raise InvalidStint unless it is a stint of the scene."""
    if not is_between(stint, 0, scene.stints - 1):
        raise InvalidStint(stint)


def check_lot(scene, reader, lot):
    """Raise InvalidReader or InvalidLot unless the reader may ask the lot."""
    check_reader(scene, reader)
    if not may_ask(scene.readers[reader][0], scene.stints, lot):
        raise InvalidLot(lot)


def is_history(scene, value):
    """Whether it is a list of a value for each stint."""
    return is_list(value, scene.stints, scene.stints) and are_between(value, 0, scene.many - 1)


def lot_sign(scene, reader, lot, history):
    """The sign that the source of a reader has for a lot in a history."""
    return sign_of(scene.readers[reader][0], tuple(sorted([history[stint] for stint in lot])))


def _signs(scene, history):
    return [tuple([lot_sign(scene, reader, lot, history) for lot in asks])
            for reader, (_, asks) in enumerate(scene.readers)]


def signs_of(scene, history):
    """For each reader the tuple of the signs of its asks."""
    check_history(scene, history)
    return _signs(scene, history)


def alike(scene, one, other):
    """Whether all asks of all readers have the same signs in both histories."""
    check_history(scene, one)
    check_history(scene, other)
    return _signs(scene, one) == _signs(scene, other)


def bag_at(scene, reader, ask, history):
    """The bag of the values that the stints of the lot have."""
    check_ask(scene, reader, ask)
    check_history(scene, history)
    return tuple(sorted([history[stint] for stint in scene.readers[reader][1][ask]]))


def _with_asks(scene, reader, asks):
    """The scene in which the reader has these asks."""
    readers = list(scene.readers)
    readers[reader] = (readers[reader][0], asks)
    return Scene(scene.stints, readers)


def with_ask(scene, reader, lot):
    """The scene in which the reader asks this lot, too."""
    check_lot(scene, reader, lot)
    asks = scene.readers[reader][1]
    if len(asks) == 60:
        raise TooMany(len(asks) + 1)
    return _with_asks(scene, reader, [*asks, lot])


def without_ask(scene, reader, ask):
    """The scene without this ask."""
    check_ask(scene, reader, ask)
    asks = scene.readers[reader][1]
    return _with_asks(scene, reader, asks[:ask] + asks[ask + 1:])
