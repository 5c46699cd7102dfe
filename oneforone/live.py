"""Scenes of live tables, whose rows are renewed and traded, come and go."""

from oneforone.checks import are_between, is_between, is_list, is_set
from oneforone.dials import Dials
from oneforone.errors import InvalidDeeds, InvalidRows, InvalidSet, InvalidSource
from oneforone.scenes import Scene
from oneforone.sources import is_source
from oneforone.totals import Total


def check_rows(rows):
    """Raise InvalidRows unless it is a number of rows of a live table."""
    if not is_between(rows, 1, 8):
        raise InvalidRows(rows)


def check_inside(rows, inside):
    """Raise InvalidSet unless these are rows of a live table that may be in at first."""
    if not is_set(inside, rows, 0, 6):
        raise InvalidSet(inside)


def _is_deed(rows, value):
    """Whether it is a deed of so many rows, possible or not."""
    if not isinstance(value, tuple) or not are_between(value[1:], 0, rows - 1):
        return False
    if len(value) == 3:
        return value[0] == "trade"
    return len(value) == 2 and value[0] in ("renew", "come", "go")


def _check_deeds(rows, deeds):
    if not is_list(deeds, 0, 20) or not all([_is_deed(rows, deed) for deed in deeds]):
        raise InvalidDeeds(deeds)


def rows_behind(present, deed):
    """The ascending list of the rows that are in behind a possible deed."""
    word, row = deed[:2]
    if word == "renew":
        return list(present)
    staying = [other for other in present if other != row]
    return staying if word == "go" else sorted(staying + [deed[-1]])


def _is_possible(present, deed):
    word, row = deed[:2]
    if word == "come":
        return row not in present and len(present) < 6
    if word == "trade":
        return row in present and deed[-1] not in present
    return row in present


def _asks(rows, inside, deeds):
    """The lots of the present stints, at first and behind each deed, or None if a deed is not possible."""
    last = list(range(rows))
    begun = rows
    present = list(inside)
    asks = [present]
    for deed in deeds:
        if not _is_possible(present, deed):
            return None
        present = rows_behind(present, deed)
        if deed[0] == "renew":
            last[deed[1]] = begun
            begun += 1
        asks.append(sorted([last[row] for row in present]))
    return asks


def live_scene(source, rows, inside, deeds):
    """The scene of a live table with this source, the rows that are in at first, and the deeds."""
    check_rows(rows)
    check_inside(rows, inside)
    if not isinstance(source, (Dials, Total)) or not is_source(source):
        raise InvalidSource(source)
    _check_deeds(rows, deeds)
    asks = _asks(rows, inside, deeds)
    stints = rows + len([deed for deed in deeds if deed[0] == "renew"])
    if asks is None or stints > 12:
        raise InvalidDeeds(deeds)
    return Scene(stints, [(source, asks)])


def live_rows(rows, deeds):
    """For each row the ascending list of its stints."""
    check_rows(rows)
    _check_deeds(rows, deeds)
    renewed = [deed[1] for deed in deeds if deed[0] == "renew"]
    found = [[row] for row in range(rows)]
    for begun, row in enumerate(renewed):
        found[row].append(rows + begun)
    return found
