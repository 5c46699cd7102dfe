import random
import unittest
from itertools import product

from oneforone.boards import Board, count_board
from oneforone.dials import Dials
from oneforone.errors import InvalidDeeds, InvalidRows, InvalidSet, InvalidSource
from oneforone.live import live_rows, live_scene
from tests import lives
from tests.cases import NO_INTEGERS, NO_LISTS, Case
from tests.lives import STEPS, WORDS, random_deeds, sources
from tests.runs import LAST, ODD, disordered_totals
from tests.walks import any_values

NO_SETS = NO_LISTS + [[True], [0, True], [3], [0, 0], [1, 0], [-1], [None], ["0"], [[0]], (3,)]
# For a table of three rows; rows 0 and 1 are in.
NO_DEEDS = [None, True, 0, "go 0", "go", (), ("go",), ("go", 0, 1), ("trade", 0), ("trade", 0, 2, 1), ("renew", 0, 1), ("come",),
            ["go", 0], ("leave", 0), ("Go", 0), (None, 0), (0, 0), (["go"], 0), ("go", True), ("trade", False, 2), ("trade", 0, True),
            ("go", 3), ("go", -1), ("trade", 0, 3), ("trade", -1, 2), ("go", None), ("go", "0"), ("go", (0,)), ("hold",),
            ("show",), (("go", 0),), ("", 0), ({}, 0), (Board(1, 1, [0]), 0)]


def slow_rows(rows, deeds):
    stints = lives.stints_of(rows, deeds)
    return [[stint for stint, each in enumerate(stints) if each == row] for row in range(rows)]


class Live(Case):
    def test_by_the_words(self):
        told = set()
        for rows, inside, deeds in lives.random_tables(131, 300, most_rows=8, most_deeds=20, most_stints=12):
            source = random.Random(len(deeds)).choice(sources())
            scene = live_scene(source, rows, inside, deeds)
            self.assertEqual(scene.stints, len(lives.stints_of(rows, deeds)))
            self.assertEqual(scene.readers, ((source, lives.asks(rows, inside, deeds)),))
            self.assertTrue(live_scene(source, rows, tuple(inside), tuple(deeds)) == scene)
            self.assertEqual(live_rows(rows, deeds), slow_rows(rows, deeds))
            told |= {(rows, deed[0]) for deed in deeds} | {len(ask) for ask in scene.readers[0][1]}
        self.assertTrue(set(product((1, 8), ("renew", "come", "go"))) | set(range(7)) <= told)

    def test_all_short_scripts(self):
        told = set()
        for rows, inside in ((1, []), (1, [0]), (2, [1]), (3, [0, 1])):
            for many in range(3):
                for deeds in product(lives.all_deeds(rows), repeat=many):
                    asks = lives.asks(rows, inside, deeds)
                    told.add(asks is None)
                    if asks is None:
                        self.refuses(InvalidDeeds, deeds, live_scene, STEPS, rows, inside, deeds)
                    else:
                        self.assertEqual(live_scene(STEPS, rows, inside, deeds).readers[0][1], asks)
                    self.assertEqual(live_rows(rows, deeds), slow_rows(rows, deeds))
        self.assertEqual(told, {True, False})

    def test_a_row_that_goes_keeps_its_stint(self):
        deeds = [("renew", 0), ("renew", 0), ("go", 0), ("come", 0), ("trade", 0, 1), ("trade", 1, 0), ("renew", 0)]
        scene = live_scene(STEPS, 2, [0], deeds)
        self.assertEqual(scene.readers[0][1], ((0,), (2,), (3,), (), (3,), (1,), (3,), (4,)))
        self.assertEqual(live_rows(2, deeds), [[0, 2, 3, 4], [1]])

    def test_none_in_and_six_in(self):
        self.assertEqual(live_scene(STEPS, 1, [], []).readers[0][1], ((),))
        six = [0, 1, 2, 3, 4, 5]
        self.assertEqual(live_scene(STEPS, 6, six, []).readers[0][1], ((0, 1, 2, 3, 4, 5),))
        for rows, inside, deeds in ((8, six, [("come", 6)]), (7, six[:5], [("come", 6), ("come", 5)]),
                                    (8, six, [("go", 0), ("come", 0), ("come", 6)])):
            self.refuses(InvalidDeeds, deeds, live_scene, STEPS, rows, inside, deeds)
            self.assertEqual(len(live_scene(STEPS, rows, inside, deeds[:-1]).readers[0][1]), len(deeds))
        self.assertEqual(live_scene(STEPS, 8, six, [("go", 5), ("come", 7)]).readers[0][1][-1], (0, 1, 2, 3, 4, 7))
        self.assertEqual(live_scene(STEPS, 7, six, [("trade", 2, 6)]).readers[0][1][-1], (0, 1, 3, 4, 5, 6))

    def test_many_stints_and_deeds(self):
        for rows in (1, 5, 8):
            deeds = [("renew", 0)] * (12 - rows)
            self.assertEqual(live_scene(STEPS, rows, [0], deeds).stints, 12)
            deeds = deeds + [("renew", 0)]
            self.refuses(InvalidDeeds, deeds, live_scene, STEPS, rows, [0], deeds)
            self.assertEqual(len(live_rows(rows, deeds)[0]), 14 - rows)
        deeds = [("go", 0), ("come", 0)] * 10
        self.assertEqual(len(live_scene(STEPS, 1, [0], deeds).readers[0][1]), 21)
        deeds = deeds + [("go", 0)]
        self.refuses(InvalidDeeds, deeds, live_scene, STEPS, 1, [0], deeds)
        self.refuses(InvalidDeeds, deeds, live_rows, 1, deeds)
        self.assertEqual(live_rows(3, [("renew", 1)] * 20), [[0], [1] + list(range(3, 23)), [2]])

    def test_rows_of_deeds_that_are_not_possible(self):
        deeds = [("come", 0), ("come", 0), ("renew", 1), ("trade", 2, 2), ("go", 1), ("renew", 1), ("renew", 2)]
        self.assertEqual(live_rows(3, deeds), [[0], [1, 3, 4], [2, 5]])
        self.assertEqual(live_rows(1, []), [[0]])

    def test_wrong_arguments_in_order(self):
        for wrong in NO_INTEGERS + [0, 9, -1]:
            self.refuses(InvalidRows, wrong, live_scene, None, wrong, None, None)
            self.refuses(InvalidRows, wrong, live_rows, wrong, None)
        for wrong in NO_SETS:
            self.refuses(InvalidSet, wrong, live_scene, None, 3, wrong, None)
        self.refuses(InvalidSet, NO_SETS, live_scene, None, 8, NO_SETS, None)
        seven = [0, 1, 2, 3, 4, 5, 6]
        self.refuses(InvalidSet, seven, live_scene, STEPS, 8, seven, [])
        for wrong in any_values() + [LAST, count_board(2, 1), count_board(2, 2), disordered_totals()[0], (STEPS,), [STEPS]]:
            if not (type(wrong) is Dials or wrong == ODD):
                self.refuses(InvalidSource, wrong, live_scene, wrong, 3, [0, 1], None)
        for wrong in NO_LISTS + [[deed] for deed in NO_DEEDS] + [[("go", 0), deed] for deed in NO_DEEDS]:
            self.refuses(InvalidDeeds, wrong, live_scene, STEPS, 3, [0, 1], wrong)
            self.refuses(InvalidDeeds, wrong, live_rows, 3, wrong)
        self.refuses(InvalidDeeds, wrong, live_scene, ODD, 3, (0, 1), wrong)

    def test_deeds_that_are_not_possible(self):
        for deed in (("renew", 2), ("trade", 2, 0), ("trade", 0, 1), ("trade", 0, 0), ("trade", 2, 2), ("come", 0), ("go", 2)):
            given = [deed]
            self.refuses(InvalidDeeds, given, live_scene, STEPS, 3, [0, 1], given)
            given = [("come", 2), ("go", 2), deed]
            self.refuses(InvalidDeeds, given, live_scene, STEPS, 3, [0, 1], given)

    def test_random_deeds_are_possible(self):
        rolls = random.Random(5)
        for _ in range(50):
            deeds = random_deeds(rolls, 4, [0, 1], 6)
            self.assertIsNotNone(lives.asks(4, [0, 1], deeds))
            self.assertTrue(all(len(deed) == WORDS[deed[0]] + 1 for deed in deeds))


if __name__ == "__main__":
    unittest.main()
