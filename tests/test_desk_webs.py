import random
import unittest
from itertools import product

from oneforone.desk import Desk
from oneforone.dials import Dials
from oneforone.failures import NoAsks, NotOneDial, TooMany, Twice
from oneforone.webs import Web
from tests import nets
from tests.cases import Case
from tests.desks import Mirror, all_deeds

STEPS = Dials([0], [[0], [1]])
MARKS = [Dials([0], [[3], [-2]]), Dials([0], [[5], [0], [1]]), STEPS, Dials([0], [[-100], [100]]), Dials([0], [[4]])]


def slow_web(table):
    """The error, or the web and the stints with ties, by the words."""
    dials = table.dials
    if dials.rounds != (0,) or any(abs(marks[0]) > 100 for marks in dials.marks):
        return NotOneDial, {}
    if not table.shown:
        return NoAsks, {"reader": 0}
    low, high = min(dials.marks)[0], max(dials.marks)[0]
    ties = {}
    for stint in range(len(table.stints)):
        at = [place for place, (ask, _) in enumerate(table.shown) if stint in ask]
        if at and at[-1] - at[0] + 1 != len(at):
            return Twice, {"stint": stint}
        if at:
            ties[stint] = (at[0], at[-1] + 1, low, high)
    if len(table.shown) + 1 > 12:
        return TooMany, {"count": len(table.shown) + 1}
    return Web(len(table.shown) + 1, list(ties.values())), list(ties)


class Webs(Case):
    def one(self, desk, table):
        expected = slow_web(table)
        if not isinstance(expected[0], Web):
            self.fails(*expected, desk.web)
            return expected[0]
        web, stints = expected
        self.assertTrue(desk.web() == web)
        dials = table.dials
        filling = [dials.marks[table.history()[stint]][0] for stint in stints]
        self.assertTrue(nets.is_filling(web, filling))
        self.assertEqual(nets.shown(web, filling), tuple(sign[0] for _, sign in table.shown))
        self.assertEqual([sign[0] for sign in desk.log()], list(nets.shown(web, filling)))
        if dials.many ** len(table.stints) <= 200:
            self.alike(table, web, stints)
        return web.places

    def alike(self, table, web, stints):
        """Two histories are alike exactly if their fillings are."""
        by_signs, by_shown = {}, {}
        for history in product(range(table.dials.many), repeat=len(table.stints)):
            filling = [table.dials.marks[history[stint]][0] for stint in stints]
            signs = tuple(table.sign(ask, history) for ask, _ in table.shown)
            by_signs.setdefault(signs, []).append(history)
            by_shown.setdefault(nets.shown(web, filling), []).append(history)
        self.assertEqual(sorted(by_signs.values()), sorted(by_shown.values()))

    def test_by_the_words(self):
        told = set()
        rolls = random.Random(176)
        for _ in range(250):
            dials = rolls.choice(MARKS + [Dials([0, 0], [[0, 1], [1, 0]]), Dials([3], [[0], [1]])])
            rows = rolls.randint(1, 5)
            values = [rolls.randrange(dials.many) for _ in range(rows)]
            inside = sorted(rolls.sample(range(rows), rolls.randint(0, rows)))
            held = rolls.random() < 0.3
            desk, mirror = Desk(dials, rows, values, inside, held), Mirror(dials, values, inside, held)
            words = rolls.choice([("renew",), ("renew", "trade"), ("renew", "hold", "show"), ("go", "come", "renew", "trade")])
            for _ in range(rolls.randint(0, 13)):
                deed = rolls.choice([each for each in all_deeds(rows, dials.many) if each[0] in words])
                if mirror.table().error(deed) is None:
                    mirror.do(deed)
                    getattr(desk, deed[0])(*deed[1:])
            told.add(self.one(desk, mirror.table()))
        self.assertTrue({NotOneDial, NoAsks, Twice, 2, 3, 4, 5} <= told)

    def test_marks_of_100_and_101(self):
        for low, high, right in ((-100, 100, True), (-101, 0, False), (0, 101, False)):
            desk = Desk(Dials([0], [[low], [high]]), 2, [0, 1], [0, 1])
            if right:
                self.assertEqual(desk.web().ties, ((0, 1, -100, 100), (0, 1, -100, 100)))
            else:
                self.fails(NotOneDial, {}, desk.web)

    def test_errors_in_order(self):
        for dials in (Dials([], [[]]), Dials([2], [[0], [1]]), Dials([0, 0], [[0, 0], [1, 1]]), Dials([0], [[101]])):
            self.fails(NotOneDial, {}, Desk(dials, 1, [0], [0], True).web)
            self.fails(NotOneDial, {}, Desk(dials, 1, [0], [0]).tried([("go", 0), ("come", 0)] * 10).web)
        self.fails(NoAsks, {"reader": 0}, Desk(STEPS, 1, [0], [0], True).web)
        self.fails(NoAsks, {"reader": 0}, Desk(STEPS, 1, [0], [0], True).tried([("renew", 0, 1), ("go", 0)]).web)
        # Both Twice and too many places.
        self.fails(Twice, {"stint": 1}, Desk(STEPS, 3, [0] * 3, [1, 2]).tried([("go", 1), ("come", 1), ("go", 2), ("come", 2)] * 4).web)
        self.fails(TooMany, {"count": 13}, Desk(STEPS, 1, [0], [0]).tried([("renew", 0, 1)] * 11).web)
        self.assertEqual(Desk(STEPS, 1, [0], [0]).tried([("renew", 0, 1)] * 10).web().places, 12)
        self.assertEqual(len(Desk(STEPS, 1, [0], [0]).tried([("hold",), ("show",)] * 10).log()), 11)
        self.assertEqual(Desk(STEPS, 1, [0], [0]).tried([("hold",), ("show",)] * 10).web(), Web(12, [(0, 11, 0, 1)]))
        self.fails(TooMany, {"count": 14}, Desk(STEPS, 2, [0, 1], [0]).tried([("renew", 0, 1)] * 9 + [("come", 1), ("go", 0), ("go", 1)]).web)

    def test_rows_that_go_and_come_again(self):
        desk = Desk(STEPS, 3, [0, 1, 1], [0, 1])
        self.fails(Twice, {"stint": 1}, desk.tried([("go", 1), ("come", 2), ("come", 1)]).web)
        # Between signs that are held back nobody sees it.
        other = desk.tried([("hold",), ("go", 1), ("come", 2), ("come", 1), ("show",)])
        self.assertEqual(other.web(), Web(3, [(0, 2, 0, 1), (0, 2, 0, 1), (1, 2, 0, 1)]))
        # A row that is only in while signs are held back has no tie.
        other = desk.tried([("hold",), ("come", 2), ("go", 2), ("show",)])
        self.assertEqual(other.web(), Web(3, [(0, 2, 0, 1), (0, 2, 0, 1)]))
        other = desk.tried([("hold",), ("renew", 0, 1), ("renew", 0, 0), ("show",)])
        self.assertEqual(other.web(), Web(3, [(0, 1, 0, 1), (0, 2, 0, 1), (1, 2, 0, 1)]))
        self.assertEqual(Desk(STEPS, 2, [0, 1], []).web(), Web(2, []))


if __name__ == "__main__":
    unittest.main()
