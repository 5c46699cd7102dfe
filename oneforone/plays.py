"""A live table on its way: its rows, their stints and values, and the signs that were shown."""

from oneforone.checks import check_value, is_between
from oneforone.errors import InvalidRow
from oneforone.failures import AlreadyHeld, InRow, NothingHeld, OutRow, TooMany
from oneforone.live import rows_behind

# Each word of a deed of the table, with the number of items that the deed has.
FORMS = (("renew", 3), ("trade", 3), ("come", 2), ("go", 2))


class Play:
    """What stands on the table: `owners` has the row of each stint, `last` the last stint of each row."""

    def __init__(self, dials, values, inside, held):
        self.dials = dials
        self.owners = list(range(len(values)))
        self.worths = list(values)
        self.last = list(range(len(values)))
        self.inside = list(inside)
        self.held = held
        self.asks = []
        self.signs = []
        if not held:
            show_sign(self)


def show_sign(play):
    """Let the present sign be shown, and return it."""
    ask = sorted([play.last[row] for row in play.inside])
    sign = play.dials.sum_of(tuple(sorted([play.worths[stint] for stint in ask])))
    play.asks.append(ask)
    play.signs.append(sign)
    return sign


def is_table_deed(value):
    """Whether it is a tuple of the word of one of the first four deeds, and so many items as it has."""
    return isinstance(value, tuple) and len(value) > 0 and (value[0], len(value)) in FORMS


def is_deed(value):
    """Whether it is a tuple of the word of a deed, and so many items as it has."""
    return is_table_deed(value) or value in (("hold",), ("show",))


def check_row(play, row):
    """Raise InvalidRow unless it is a row of the table."""
    if not is_between(row, 0, len(play.last) - 1):
        raise InvalidRow(row)


def _check_in(play, row):
    if row not in play.inside:
        raise OutRow(row)


def _check_out(play, row):
    if row in play.inside:
        raise InRow(row)


def _check_most(count, most):
    if count > most:
        raise TooMany(count)


def _check_renew(play, row, value):
    check_row(play, row)
    _check_in(play, row)
    check_value(value, play.dials.many)
    _check_most(len(play.owners) + 1, 12)


def _check_trade(play, out, into):
    check_row(play, out)
    check_row(play, into)
    _check_in(play, out)
    _check_out(play, into)


def _check_come(play, row):
    check_row(play, row)
    _check_out(play, row)
    _check_most(len(play.inside) + 1, 6)


def _check_go(play, row):
    check_row(play, row)
    _check_in(play, row)


def _check_held(play, wanted):
    if play.held and not wanted:
        raise AlreadyHeld()
    if wanted and not play.held:
        raise NothingHeld()


def check_deed(play, deed):
    """Raise the error of the deed, which has the form of one, if it can't be done now."""
    word = deed[0]
    if word == "renew":
        _check_renew(play, deed[1], deed[2])
    elif word == "trade":
        _check_trade(play, deed[1], deed[2])
    elif word == "come":
        _check_come(play, deed[1])
    elif word == "go":
        _check_go(play, deed[1])
    else:
        _check_held(play, word == "show")


def do_deed(play, deed):
    """Do the deed, which can be done, and return the sign that it shows, or None."""
    word = deed[0]
    if word == "renew":
        play.last[deed[1]] = len(play.owners)
        play.owners.append(deed[1])
        play.worths.append(deed[2])
    elif word in ("hold", "show"):
        play.held = word == "hold"
    else:
        play.inside = rows_behind(play.inside, deed)
    return None if play.held else show_sign(play)
