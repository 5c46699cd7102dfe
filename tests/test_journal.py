import random
import unittest

from oneforone.desk import Desk
from oneforone.dials import Dials
from oneforone.errors import InvalidDials, InvalidHistory, InvalidLine, InvalidRow, InvalidRows, InvalidSet, InvalidValue
from oneforone.failures import AlreadyHeld, InRow, NothingHeld, NothingToUndo, OutRow, TooMany
from oneforone.journal import read_desk
from tests.cases import Case
from tests.desks import Mirror, all_deeds, dials_list
from tests.walks import LONG, any_values

STEPS = Dials([0], [[0], [1]])
START = (STEPS, 3, [0, 1, 1], [0, 1])
LINES = ["renew 0 1", "trade 0 2", "come 2", "go 1", "hold", "show"]
NO_LINES = ["", " ", "go", "go ", "go  1", " go 1", "go 1 ", "go 1 1", "go\t1", "go 1\n", "\ngo 1", "go 01", "go 00", "go -1", "go -0",
            "go +1", "go 1_0", "go 1.0", "go 1e1", "go 0x1", "go a", "go \u0661", "go \u00b2", "go \u00a01", "Go 1", "GO 1", "gO 1",
            "goes 1", "trade 0", "trade 0 2 1", "trade 0  2", "trade 0,2", "renew 0", "renew 0 1 1", "renew 0 01", "renew 00 1",
            "renew -0 1", "come", "come 1 2", "hold 0", "hold ", " hold", "HOLD", "show 1", "show ", "Show", "hold show", "undo", "redo",
            "0 go", "go 1 2 3", "1", "1 2", "renew 0 True", "go None", "go 1;", "go '1'", "/", "go /", "trade 0 /"]


def is_line(value):
    """By the words of the point."""
    if type(value) is not str:
        return False
    forms = {"renew": 2, "trade": 2, "come": 1, "go": 1, "hold": 0, "show": 0}
    word, *items = value.split(" ")
    if word not in forms or len(items) != forms[word]:
        return False
    return all(item and all(sign in "0123456789" for sign in item) and (item == "0" or item[0] != "0") for item in items)


class Journals(Case):
    def test_there_and_back(self):
        rolls = random.Random(175)
        told = set()
        for _ in range(60):
            dials = rolls.choice(dials_list())
            rows = rolls.randint(1, 5)
            values = [rolls.randrange(dials.many) for _ in range(rows)]
            inside = sorted(rolls.sample(range(rows), rolls.randint(0, rows)))
            held = rolls.random() < 0.4
            mirror = Mirror(dials, values, inside, held)
            desk = Desk(dials, rows, values, inside, held)
            for _ in range(rolls.randint(0, 40)):
                deed = rolls.choice(all_deeds(rows, dials.many))
                if mirror.table().error(deed) is None:
                    mirror.do(deed)
                    getattr(desk, deed[0])(*deed[1:])
            lines = desk.journal()
            self.assertEqual([lines, type(lines)], [mirror.lines(), list])
            self.assertTrue(all(is_line(line) for line in lines))
            told |= {line.split()[0] for line in lines}
            for given in (lines, tuple(lines)):
                other = read_desk(dials, rows, values, inside, given, held)
                self.assertIs(type(other), Desk)
                self.assertTrue(other == desk)
                self.assertEqual([other.log(), other.stints(), other.present()], [desk.log(), desk.stints(), desk.present()])
            # All that was read can be taken back.
            for at in range(len(lines)):
                other.undo()
                self.assertEqual(other.journal(), lines[:len(lines) - 1 - at])
            self.fails(NothingToUndo, {}, other.undo)
            for _ in lines:
                other.redo()
            self.assertTrue(other == desk)
        self.assertEqual(told, {"renew", "trade", "come", "go", "hold", "show"})

    def test_arguments(self):
        lines = ["trade 0 2", "hold", "go 2"]
        desk = read_desk(lines=lines, inside=[0, 1], values=[0, 1, 1], rows=3, dials=STEPS, held=False)
        lines.append("show")
        self.assertTrue(desk == read_desk(*START, lines[:3]))
        self.assertEqual(desk.journal(), ["trade 0 2", "hold", "go 2"])
        self.assertTrue(read_desk(*START, []) == Desk(*START))
        self.assertTrue(read_desk(*START, (), held=True) == Desk(*START, True))
        self.assertFalse(read_desk(*START, []) == Desk(*START, True))

    def test_lines(self):
        for line in NO_LINES:
            self.assertFalse(is_line(line), line)
            self.refuses(InvalidLine, line, read_desk, *START, [line])
            self.refuses(InvalidLine, line, read_desk, *START, ["go 0", line])
        for value in any_values():
            if not isinstance(value, str):
                self.refuses(InvalidLine, value, read_desk, *START, [value])
        self.refuses(InvalidLine, b"hold", read_desk, *START, [b"hold"])
        for line in LINES:
            self.assertTrue(is_line(line))

    def test_lines_of_many_signs(self):
        rolls = random.Random(176)
        signs = "goldshw 012/-"
        for _ in range(400):
            line = "".join(rolls.choice(signs) for _ in range(rolls.randint(0, 6)))
            if not is_line(line):
                self.refuses(InvalidLine, line, read_desk, *START, [line])
        for line in ("go " + "x" * 3997, " " * 4000, "~" * 4000, "go " + "1 " * 1998, "go -" + "1" * 19):
            self.refuses(InvalidLine, line, read_desk, *START, [line])

    def test_long_integers(self):
        for number in (LONG, 10 ** 19, 10 ** 20 - 1, 10 ** 40, 3):
            for line in (f"go {number}", f"come {number}", f"trade {number} 0", f"trade 0 {number}", f"renew {number} 0"):
                self.fails(InvalidRow, {"given": number}, read_desk, *START, [line])
            self.fails(InvalidValue, {"given": number}, read_desk, *START, [f"renew 0 {number}"])

    def test_errors_in_order(self):
        self.refuses(InvalidDials, None, read_desk, None, None, None, None, None)
        self.refuses(InvalidRows, 0, read_desk, STEPS, 0, None, None, None)
        self.refuses(InvalidHistory, None, read_desk, STEPS, 3, None, None, None)
        self.refuses(InvalidSet, None, read_desk, STEPS, 3, [0, 0, 0], None, None)
        for wrong in (None, True, 3, "go 1", "", {}, {"go 1": 1}, STEPS):
            self.refuses(InvalidLine, wrong, read_desk, *START, wrong)
        # All lines are read ahead of the first deed.
        self.refuses(InvalidLine, "come 01", read_desk, *START, ["come 0", "come 01"])
        self.refuses(InvalidLine, "x", read_desk, *START, ["come 0", "x", "y"])
        self.fails(InRow, {"row": 0}, read_desk, *START, ["come 2", "come 0", "go 9"])
        self.fails(OutRow, {"row": 2}, read_desk, *START, ["go 2"])
        self.fails(AlreadyHeld, {}, read_desk, *START, ["hold"], True)
        self.fails(NothingHeld, {}, read_desk, *START, ["show"])
        self.fails(TooMany, {"count": 21}, read_desk, *START, ["hold", "show"] * 10 + ["hold"])
        self.fails(TooMany, {"count": 13}, read_desk, *START, ["renew 0 1"] * 10)
        self.assertEqual(len(read_desk(*START, ["hold", "show"] * 10).journal()), 20)


if __name__ == "__main__":
    unittest.main()
