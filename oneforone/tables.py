"""Scenes of tables whose rows are renewed or traded."""

from oneforone.checks import are_between, is_between, is_list, is_tuple
from oneforone.errors import InvalidInside, InvalidRows, InvalidScript, InvalidSource
from oneforone.scenes import Scene
from oneforone.sources import is_source_for


def is_renewing(rows, value):
    """Whether it is a script of rows that are renewed."""
    return is_list(value, 0, 12 - rows) and are_between(value, 0, rows - 1)


def _check_rows(rows):
    if not is_between(rows, 1, 6):
        raise InvalidRows(rows)


def _check_renewing(rows, script):
    if not is_renewing(rows, script):
        raise InvalidScript(script)


def renew_scene(source, rows, script):
    """The scene of a table whose rows are all in, and renewed by the script."""
    _check_rows(rows)
    if not is_source_for(source, rows):
        raise InvalidSource(source)
    _check_renewing(rows, script)
    present = list(range(rows))
    asks = [list(present)]
    for begun, row in enumerate(script):
        present[row] = rows + begun
        asks.append(sorted(present))
    return Scene(rows + len(script), [(source, asks)])


def renew_rows(rows, script):
    """For each row the ascending list of its stints."""
    _check_rows(rows)
    _check_renewing(rows, script)
    found = [[row] for row in range(rows)]
    for begun, row in enumerate(script):
        found[row].append(rows + begun)
    return found


def rows_in(rows, inside, script):
    """The ascending lists of the rows that are in, at first and behind each trade, or None if one is not possible."""
    present = list(range(inside))
    found = [present]
    for trade in script:
        if not is_tuple(trade, 2) or not are_between(trade, 0, rows - 1):
            return None
        out, into = trade
        if out not in present or into in present:
            return None
        present = sorted([row for row in present if row != out] + [into])
        found.append(present)
    return found


def check_trading(rows, inside, most_rows, most_inside):
    """Raise InvalidRows or InvalidInside unless these are a number of rows, and of those of them that are in."""
    if not is_between(rows, 2, most_rows):
        raise InvalidRows(rows)
    if not is_between(inside, 1, min(most_inside, rows - 1)):
        raise InvalidInside(inside)


def trades_scene(source, rows, inside, script):
    """The scene of a table of which some rows are in, and traded by the script."""
    check_trading(rows, inside, 12, 6)
    if not is_source_for(source, inside):
        raise InvalidSource(source)
    asks = rows_in(rows, inside, script) if is_list(script, 0, 40) else None
    if asks is None:
        raise InvalidScript(script)
    return Scene(rows, [(source, asks)])
