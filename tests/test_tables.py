import random
import unittest
from itertools import product

from oneforone.boards import Board, count_board
from oneforone.dials import Dials
from oneforone.errors import InvalidInside, InvalidRows, InvalidScript, InvalidSource
from oneforone.scenes import Scene
from oneforone.tables import renew_rows, renew_scene, trades_scene
from oneforone.totals import Total
from tests.cases import NO_INTEGERS, NO_LISTS, Case
from tests.runs import LAST, ODD
from tests.sights import LINE

REST = Dials([2], [[0], [1]])
NO_SOURCES = [None, True, 2, "01", [], (), {}, (REST, []), [REST], LINE, LAST]


def renewed(rows, script):
    """The lots and the stints of the rows, deed by deed."""
    stints = [[row] for row in range(rows)]
    lots = [sorted(each[-1] for each in stints)]
    for row in script:
        stints[row].append(sum(map(len, stints)))
        lots.append(sorted(each[-1] for each in stints))
    return lots, stints


def traded(inside, script):
    present = set(range(inside))
    lots = [sorted(present)]
    for out, into in script:
        present = present - {out} | {into}
        lots.append(sorted(present))
    return lots


def random_trades(rolls, rows, inside, many):
    present = list(range(inside))
    script = []
    for _ in range(many):
        out = rolls.choice(present)
        into = rolls.choice([row for row in range(rows) if row not in present])
        present[present.index(out)] = into
        script.append((out, into))
    return script


class Renewing(Case):
    def test_by_the_words(self):
        rolls = random.Random(98)
        for rows in range(1, 7):
            for many in range(13 - rows):
                script = [rolls.randrange(rows) for _ in range(many)]
                lots, stints = renewed(rows, script)
                self.assertEqual(renew_rows(rows, script), stints)
                self.assertEqual(renew_rows(rows, tuple(script)), stints)
                for source in (count_board(2, rows), REST, ODD):
                    found = renew_scene(source, rows, script)
                    self.assertIs(type(found), Scene)
                    self.assertEqual(found, Scene(rows + many, [(source, lots)]))
                    self.assertIs(found.readers[0][0], source)

    def test_a_row_renewed_many_times(self):
        found = renew_scene(ODD, 1, [0] * 11)
        self.assertEqual([found.stints, found.readers[0][1]], [12, tuple((at,) for at in range(12))])
        self.assertEqual(renew_rows(2, [1] * 10), [[0], list(range(1, 12))])

    def test_wrong_rows(self):
        for wrong in NO_INTEGERS + [0, 7, -1]:
            self.refuses(InvalidRows, wrong, renew_scene, ODD, wrong, [])
            self.refuses(InvalidRows, wrong, renew_scene, None, wrong, None)
            self.refuses(InvalidRows, wrong, renew_rows, wrong, None)
            self.refuses(InvalidRows, wrong, renew_rows, wrong, [])

    def test_wrong_sources(self):
        for wrong in NO_SOURCES + [count_board(2, 1), count_board(2, 3)]:
            self.refuses(InvalidSource, wrong, renew_scene, wrong, 2, [])
            self.refuses(InvalidSource, wrong, renew_scene, wrong, 2, None)

    def test_wrong_scripts(self):
        for rows in range(1, 7):
            for wrong in NO_LISTS + [[rows], [-1], [True], [0, None], ["0"], [[0]], [(0,)], [0] * (13 - rows), {"a": 0}]:
                self.refuses(InvalidScript, wrong, renew_scene, ODD, rows, wrong)
                self.refuses(InvalidScript, wrong, renew_rows, rows, wrong)


class Trading(Case):
    def test_by_the_words(self):
        rolls = random.Random(99)
        for rows, inside in product(range(2, 13), range(1, 7)):
            if inside >= rows:
                continue
            for many in (0, 1, rows - 1, 40):
                script = random_trades(rolls, rows, inside, many)
                for source in (count_board(2, inside), REST, ODD):
                    found = trades_scene(source, rows, inside, script)
                    self.assertEqual(found, Scene(rows, [(source, traded(inside, script))]))
                    self.assertEqual(trades_scene(source, rows, inside, tuple(script)), found)

    def test_rows_that_go_and_come_again(self):
        found = trades_scene(ODD, 3, 2, [(0, 2), (1, 0), (2, 1), (0, 2), (1, 0)])
        self.assertEqual(found.readers[0][1], ((0, 1), (1, 2), (0, 2), (0, 1), (1, 2), (0, 2)))

    def test_wrong_rows(self):
        for wrong in NO_INTEGERS + [0, 1, 13, -1]:
            self.refuses(InvalidRows, wrong, trades_scene, ODD, wrong, 1, [])
            self.refuses(InvalidRows, wrong, trades_scene, None, wrong, None, None)

    def test_wrong_insides(self):
        for wrong in NO_INTEGERS + [0, 7, 4, 5, -1]:
            self.refuses(InvalidInside, wrong, trades_scene, ODD, 4, wrong, [])
            self.refuses(InvalidInside, wrong, trades_scene, None, 4, wrong, None)
        self.refuses(InvalidInside, 7, trades_scene, ODD, 12, 7, [])
        self.refuses(InvalidInside, 2, trades_scene, ODD, 2, 2, [])

    def test_wrong_sources(self):
        for wrong in NO_SOURCES + [count_board(2, 1), count_board(2, 3), Total(2, [[0, 1], [0, 1]], [0, 1])]:
            self.refuses(InvalidSource, wrong, trades_scene, wrong, 4, 2, [])
            self.refuses(InvalidSource, wrong, trades_scene, wrong, 4, 2, None)
        self.assertEqual(trades_scene(Board(3, 2, [0] * 6), 4, 2, []).many, 3)

    def test_wrong_scripts(self):
        for wrong in NO_LISTS + [[(2, 3)], [(0, 1)], [(0, 0)], [(2, 2)], [(0, 2), (0, 3)], [(0, 2), (1, 2)], [(0, 4)],
                                 [(4, 2)], [(-1, 2)], [(0, -1)], [(False, 2)], [(0, True)], [(0, None)], [(0,)], [(0, 2, 3)],
                                 [[0, 2]], [0], ["02"], [None], [((0,), 2)], [(0, 2), [2, 0]], [(0, 2), (2, 0)] * 20 + [(0, 2)]]:
            self.refuses(InvalidScript, wrong, trades_scene, ODD, 4, 2, wrong)


if __name__ == "__main__":
    unittest.main()
