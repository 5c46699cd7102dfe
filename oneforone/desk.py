"""Desks: live tables with values, and what their signs give away."""

from oneforone.checks import are_between, is_list
from oneforone.dials import Dials, same_marks
from oneforone.errors import InvalidDeed, InvalidDeeds, InvalidDials, InvalidHistory
from oneforone.failures import NoAsks, NothingToRedo, NothingToUndo, NotOneDial, TooMany, Twice
from oneforone.live import check_inside, check_rows
from oneforone.plays import Play, check_deed, check_row, do_deed, is_deed, is_table_deed, show_sign
from oneforone.scenes import Scene
from oneforone.ways import fates, known
from oneforone.webs import Web


def _scene_of(play):
    return Scene(len(play.owners), [(play.dials, play.asks)])


def _known(play):
    return known(_scene_of(play), play.worths)


def _fates(play):
    return fates(_scene_of(play), play.worths)


def _check_one_dial(dials):
    """Raise NotOneDial unless the marks are numbers that a tie can have."""
    if dials.rounds != (0,) or not all([-100 <= marks[0] <= 100 for marks in dials.marks]):
        raise NotOneDial()


def _shown_at(play, stint):
    """The ascending list of the shown signs at which the stint was in."""
    return [at for at, ask in enumerate(play.asks) if stint in ask]


def _ties(play):
    """A tie for each stint that was in at a shown sign, from the first to the last one."""
    numbers = [marks[0] for marks in play.dials.marks]
    ties = []
    for stint in range(len(play.owners)):
        shown = _shown_at(play, stint)
        if shown and shown != list(range(shown[0], shown[-1] + 1)):
            raise Twice(stint)
        if shown:
            ties.append((shown[0], shown[-1] + 1, min(numbers), max(numbers)))
    return ties


class Desk:
    """A live table with the values of its rows; all that it tells follows from its beginning and its deeds."""

    def __init__(self, dials, rows, values, inside, held=False):
        if not isinstance(dials, Dials) or same_marks(dials) is not None:
            raise InvalidDials(dials)
        check_rows(rows)
        if not is_list(values, rows, rows) or not are_between(values, 0, dials.many - 1):
            raise InvalidHistory(values)
        check_inside(rows, inside)
        self._dials = dials
        self._values = tuple(values)
        self._inside = tuple(inside)
        self._held = held
        self._deeds = []
        self._undone = []

    def __eq__(self, other):
        return (isinstance(other, Desk) and self._dials == other._dials and self._values == other._values
                and self._inside == other._inside and self._held == other._held and self._deeds == other._deeds)

    def _play(self):
        """The table behind all deeds that count."""
        play = Play(self._dials, self._values, self._inside, self._held)
        for deed in self._deeds:
            do_deed(play, deed)
        return play

    def _checked(self, deed):
        """The table behind all deeds that count, if the deed can be done there."""
        play = self._play()
        check_deed(play, deed)
        count = len(self._deeds) + 1
        if count > 20:
            raise TooMany(count)
        return play

    def _done(self, deed):
        """Do the deed, and return the sign that it shows, or None."""
        play = self._checked(deed)
        self._deeds.append(deed)
        self._undone = []
        return do_deed(play, deed)

    def renew(self, row, value):
        """Make the value of the row anew."""
        return self._done(("renew", row, value))

    def trade(self, out, into):
        """Let the row `out` go and the row `into` come."""
        return self._done(("trade", out, into))

    def come(self, row):
        """Let the row come."""
        return self._done(("come", row))

    def go(self, row):
        """Let the row go."""
        return self._done(("go", row))

    def hold(self):
        """Hold signs back from now on."""
        return self._done(("hold",))

    def show(self):
        """Show signs again, the present one at once."""
        return self._done(("show",))

    def present(self):
        """The tuples of a row that is in and its value."""
        play = self._play()
        return tuple([(row, play.worths[play.last[row]]) for row in play.inside])

    def history(self):
        """The values of all stints."""
        return tuple(self._play().worths)

    def stints(self):
        """The tuples of a row and a value of all stints."""
        play = self._play()
        return list(zip(play.owners, play.worths))

    def log(self):
        """The signs that were shown."""
        return self._play().signs

    def scene(self):
        """The scene of the signs that were shown."""
        return _scene_of(self._play())

    def fates(self):
        """For each stint the values that it may have by the signs that were shown."""
        return _fates(self._play())

    def known(self):
        """The stints that are known by the signs that were shown."""
        return _known(self._play())

    def guess(self, row):
        """The values that the last stint of the row may have."""
        play = self._play()
        check_row(play, row)
        return _fates(play)[play.last[row]]

    def would_tell(self, deed):
        """The stints that are open now, and would be known if the deed were done and its sign shown."""
        if not is_table_deed(deed):
            raise InvalidDeed(deed)
        play = self._checked(deed)
        before = _known(play)
        stints = len(play.owners)
        if do_deed(play, deed) is None:
            show_sign(play)
        return [stint for stint in _known(play) if stint < stints and stint not in before]

    def undo(self):
        """Take back the last deed that counts."""
        if len(self._deeds) == 0:
            raise NothingToUndo()
        self._undone.append(self._deeds.pop())

    def redo(self):
        """Do again the deed that was taken back last."""
        if len(self._undone) == 0:
            raise NothingToRedo()
        self._deeds.append(self._undone.pop())

    def tried(self, deeds):
        """Another desk, behind these deeds as well."""
        if not is_list(deeds) or not all([is_deed(deed) for deed in deeds]):
            raise InvalidDeeds(deeds)
        other = Desk(self._dials, len(self._values), self._values, self._inside, self._held)
        other._deeds = list(self._deeds)
        other._undone = list(self._undone)
        for deed in deeds:
            other._done(deed)
        return other

    def journal(self):
        """The lines of the deeds that count."""
        return [" ".join([str(item) for item in deed]) for deed in self._deeds]

    def web(self):
        """The web of the signs that were shown."""
        play = self._play()
        _check_one_dial(self._dials)
        if len(play.asks) == 0:
            raise NoAsks(0)
        ties = _ties(play)
        places = len(play.asks) + 1
        if places > 12:
            raise TooMany(places)
        return Web(places, ties)
