"""Desks, followed by the words of the document and without the program's help."""

from itertools import product

from oneforone.dials import Dials
from oneforone.errors import InvalidRow, InvalidValue
from oneforone.failures import AlreadyHeld, InRow, NothingHeld, OutRow, TooMany
from tests.lives import rows_behind
from tests.walks import is_int, rest

ITEMS = {"renew": 2, "trade": 2, "come": 1, "go": 1, "hold": 0, "show": 0}


def is_form(value, words):
    return type(value) is tuple and len(value) > 0 and value[0] in words and len(value) == ITEMS[value[0]] + 1


class Table:
    """The table behind some deeds, which can be done one after another."""

    def __init__(self, dials, values, inside, held, deeds):
        self.dials, self.deeds = dials, []
        self.stints = list(enumerate(values))
        self.inside, self.held = set(inside), held
        self.shown = []
        self.returned = [None]
        if not held:
            self.show()
        for deed in deeds:
            self.do(deed)

    def last(self, row):
        return max(at for at, (each, _) in enumerate(self.stints) if each == row)

    def ask(self):
        return tuple(sorted(self.last(row) for row in self.inside))

    def sign(self, ask, history):
        return tuple(rest(sum(self.dials.marks[history[stint]][dial] for stint in ask), around)
                     for dial, around in enumerate(self.dials.rounds))

    def history(self):
        return tuple(value for _, value in self.stints)

    def show(self):
        ask = self.ask()
        sign = self.sign(ask, self.history())
        self.shown.append((ask, sign))
        return sign

    def do(self, deed):
        word = deed[0]
        if word == "renew":
            self.stints.append(deed[1:])
        if word in ("hold", "show"):
            self.held = word == "hold"
        else:
            self.inside = rows_behind(self.inside, deed)
        self.deeds.append(deed)
        self.returned.append(None if self.held else self.show())

    def error(self, deed):
        """The class and the attributes of the error that the deed raises now, or None."""
        word, items = deed[0], deed[1:]
        rows = range(max(row for row, _ in self.stints) + 1)
        for row in items[:1] if word == "renew" else items:
            if not is_int(row) or row not in rows:
                return InvalidRow, {"given": row}
        if word in ("renew", "trade", "go") and items[0] not in self.inside:
            return OutRow, {"row": items[0]}
        if word in ("trade", "come") and items[-1] in self.inside:
            return InRow, {"row": items[-1]}
        if word == "renew" and (not is_int(items[1]) or not 0 <= items[1] < self.dials.many):
            return InvalidValue, {"given": items[1]}
        if word == "renew" and len(self.stints) == 12:
            return TooMany, {"count": 13}
        if word == "come" and len(self.inside) == 6:
            return TooMany, {"count": 7}
        if word == "hold" and self.held:
            return AlreadyHeld, {}
        if word == "show" and not self.held:
            return NothingHeld, {}
        return (TooMany, {"count": 21}) if len(self.deeds) == 20 else None

    def alike(self):
        """All histories with the signs that were shown, by a search."""
        return [history for history in product(range(self.dials.many), repeat=len(self.stints))
                if all(self.sign(ask, history) == sign for ask, sign in self.shown)]

    def fates(self):
        found = self.alike()
        return [tuple(sorted({history[stint] for history in found})) for stint in range(len(self.stints))]

    def known(self):
        return [stint for stint, fate in enumerate(self.fates()) if len(fate) == 1]


class Mirror:
    """A desk that keeps its deeds in two lists."""

    def __init__(self, dials, values, inside, held=False):
        self.start = (dials, list(values), list(inside), held)
        self.deeds, self.undone = [], []

    def table(self, more=()):
        return Table(*self.start, self.deeds + list(more))

    def do(self, deed):
        self.deeds, self.undone = self.deeds + [deed], []

    def undo(self):
        self.undone = self.undone + [self.deeds[-1]]
        self.deeds = self.deeds[:-1]

    def redo(self):
        self.deeds = self.deeds + [self.undone[-1]]
        self.undone = self.undone[:-1]

    def would_tell(self, deed):
        now = self.table()
        behind = self.table([deed])
        if behind.returned[-1] is None:
            behind.show()
        return [stint for stint in behind.known() if stint < len(now.stints) and stint not in now.known()]

    def lines(self):
        return [" ".join(str(item) for item in deed) for deed in self.deeds]


def all_deeds(rows, values):
    found = [(word, row) for word in ("come", "go") for row in range(-1, rows + 1)]
    found += [("trade", out, into) for out in range(-1, rows + 1) for into in range(rows + 1)]
    return found + [("renew", row, value) for row in range(rows + 1) for value in range(-1, values + 1)] + [("hold",), ("show",)]


def dials_list():
    return [Dials([0], [[0], [1]]), Dials([0], [[-3], [2], [4]]), Dials([3], [[0], [1], [2]]), Dials([2], [[1], [0]]),
            Dials([0, 3], [[0, 1], [1, 1], [0, 2]]), Dials([], [[]]), Dials([4], [[0], [1]])]
