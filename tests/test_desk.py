import random
import unittest

from oneforone.desk import Desk
from oneforone.dials import Dials
from oneforone.errors import (InvalidDeed, InvalidDeeds, InvalidDials, InvalidHistory, InvalidRow, InvalidRows, InvalidSet,
                              InvalidValue)
from oneforone.failures import (AlreadyHeld, InRow, NothingHeld, NothingToRedo, NothingToUndo, OutRow, TooMany)
from oneforone.scenes import Scene
from oneforone.ways import ways
from tests import sights
from tests.cases import NO_INTEGERS, NO_LISTS, Case
from tests.desks import ITEMS, Mirror, all_deeds, dials_list, is_form
from tests.walks import any_values

STEPS = Dials([0], [[0], [1]])
TABLE_WORDS = ("renew", "trade", "come", "go")
NO_HISTORIES = NO_LISTS + [[], [0, 1], [0] * 4, [0, 1, 2], [0, -1, 0], [True, 0, 0], [0, False, 0], [None, 0, 0], ["0", 0, 0],
                           [[0], 0, 0], (0, 1, 2)]
NO_SETS = NO_LISTS + [[True], [0, True], [3], [0, 0], [1, 0], [-1], [None], ["0"], [[0]], (3,)]
NO_DEEDS = [None, True, 0, "go 0", "go", (), ("go",), ("go", 0, 1), ("trade", 0), ("trade", 0, 2, 1), ("renew", 0), ("renew", 0, 1, 1),
            ("come",), ["go", 0], ("leave", 0), ("Go", 0), (None, 0), (0, 0), (["go"], 0), (("go", 0),), ("", 0), ({}, 0), ("go 0",),
            ("undo",), ("redo",), (STEPS, 0), (["hold"],), ("hold", 0), ("show", None), ["hold"]]


def desk_and_mirror(rolls, most_rows=4):
    dials = rolls.choice(dials_list())
    rows = rolls.randint(1, most_rows)
    values = [rolls.randrange(dials.many) for _ in range(rows)]
    inside = sorted(rolls.sample(range(rows), rolls.randint(0, min(rows, 6))))
    held = rolls.random() < 0.3
    return Desk(dials, rows, values, inside, held), Mirror(dials, values, inside, held)


def do(desk, deed):
    return getattr(desk, deed[0])(*deed[1:])


class Desks(Case):
    def equal(self, desk, mirror, searched=True):
        """All looks are what the words say."""
        table = mirror.table()
        self.assertEqual(desk.present(), tuple((row, table.stints[table.last(row)][1]) for row in sorted(table.inside)))
        self.assertEqual(desk.stints(), table.stints)
        self.assertEqual(desk.history(), table.history())
        self.assertEqual(desk.log(), [sign for _, sign in table.shown])
        self.assertEqual(desk.scene(), Scene(len(table.stints), [(mirror.start[0], [ask for ask, _ in table.shown])]))
        self.assertEqual(desk.journal(), mirror.lines())
        if searched and mirror.start[0].many ** len(table.stints) <= 800:
            fates = table.fates()
            self.assertEqual(desk.fates(), fates)
            self.assertEqual(desk.known(), table.known())
            for row in range(len(mirror.start[1])):
                self.assertEqual(desk.guess(row), fates[table.last(row)])

    def step(self, rolls, desk, mirror):
        """Do any one thing with both, and tell what it was."""
        chance = rolls.random()
        if chance < 0.12:
            return self.back(desk, mirror)
        if chance < 0.2:
            return self.forth(desk, mirror)
        deeds = all_deeds(len(mirror.start[1]), mirror.start[0].many)
        word = rolls.choice(list(ITEMS))
        deed = rolls.choice([each for each in deeds if each[0] == word])
        error = mirror.table().error(deed)
        if chance > 0.9 and word in TABLE_WORDS and mirror.start[0].many ** (len(mirror.table().stints) + 1) <= 800:
            self.told(desk, mirror, deed, error)
            return "would_tell"
        if error is not None:
            self.fails(*error, do, desk, deed)
            return error[0]
        mirror.do(deed)
        found = do(desk, deed)
        self.assertEqual(found, mirror.table().returned[-1])
        return word, found is None

    def told(self, desk, mirror, deed, error):
        if error is not None:
            self.fails(*error, desk.would_tell, deed)
        else:
            found = desk.would_tell(deed)
            self.assertEqual([found, type(found)], [mirror.would_tell(deed), list])

    def back(self, desk, mirror):
        if not mirror.deeds:
            self.fails(NothingToUndo, {}, desk.undo)
            return NothingToUndo
        mirror.undo()
        self.assertIsNone(desk.undo())
        return "undo"

    def forth(self, desk, mirror):
        if not mirror.undone:
            self.fails(NothingToRedo, {}, desk.redo)
            return NothingToRedo
        mirror.redo()
        self.assertIsNone(desk.redo())
        return "redo"

    def test_by_the_words(self):
        told = set()
        rolls = random.Random(171)
        for _ in range(60):
            desk, mirror = desk_and_mirror(rolls)
            self.equal(desk, mirror)
            for _ in range(25):
                told.add(self.step(rolls, desk, mirror))
                self.equal(desk, mirror)
        words = {(word, held) for word in TABLE_WORDS for held in (True, False)}
        self.assertEqual(told, words | {("hold", True), ("show", False), "undo", "redo", "would_tell", InvalidRow, InvalidValue,
                                        OutRow, InRow, AlreadyHeld, NothingHeld, NothingToUndo, NothingToRedo})

    def test_long_tables(self):
        told = set()
        rolls = random.Random(172)
        for _ in range(40):
            desk, mirror = desk_and_mirror(rolls, 8) if rolls.random() < 0.8 else (Desk(STEPS, 8, [0] * 8, [0, 1, 2, 3, 4, 5]),
                                                                                   Mirror(STEPS, [0] * 8, [0, 1, 2, 3, 4, 5]))
            for _ in range(60):
                told.add(self.step(rolls, desk, mirror))
                self.equal(desk, mirror, False)
        self.assertIn(TooMany, told)

    def test_beginnings(self):
        for rows, inside in ((1, []), (1, [0]), (8, []), (8, [0, 1, 2, 3, 4, 5]), (8, [2, 3, 4, 5, 6, 7])):
            for held in (True, False):
                values = [at % 2 for at in range(rows)]
                desk = Desk(STEPS, rows, values, inside, held)
                self.equal(desk, Mirror(STEPS, values, inside, held), rows < 8)
        self.assertEqual(Desk(STEPS, 2, [0, 1], []).log(), [(0,)])
        self.assertEqual(Desk(STEPS, 2, [0, 1], [], True).log(), [])
        self.assertEqual(Desk(STEPS, 2, [0, 1], []).present(), ())
        self.assertEqual(Desk(Dials([], [[]]), 2, [0, 0], [1]).log(), [()])

    def test_wrong_beginnings(self):
        for wrong in any_values() + [Dials([0], [[1], [1]]), Dials([2], [[1], [3]]), Dials([], [[], []])]:
            if type(wrong) is not Dials or len(set(wrong.marks)) < wrong.many:
                self.refuses(InvalidDials, wrong, Desk, wrong, None, None, None)
        for wrong in NO_INTEGERS + [0, 9, -1]:
            self.refuses(InvalidRows, wrong, Desk, STEPS, wrong, None, None)
        for wrong in NO_HISTORIES:
            self.refuses(InvalidHistory, wrong, Desk, STEPS, 3, wrong, None)
        for wrong in NO_SETS:
            self.refuses(InvalidSet, wrong, Desk, STEPS, 3, [0, 1, 1], wrong)
            self.refuses(InvalidSet, wrong, Desk, STEPS, 3, (0, 1, 1), wrong, True)
        seven = list(range(7))
        self.refuses(InvalidSet, seven, Desk, STEPS, 8, [0] * 8, seven)

    def test_lists_are_not_kept_and_new(self):
        values, inside = [0, 1, 1], [0, 1]
        desk = Desk(STEPS, 3, values, inside)
        values[0], inside[0] = 1, 2
        mirror = Mirror(STEPS, [0, 1, 1], [0, 1])
        self.equal(desk, mirror)
        desk.trade(0, 2)
        mirror.do(("trade", 0, 2))
        for look in (desk.stints, desk.log, desk.fates, desk.known, desk.journal, lambda: desk.would_tell(("go", 1))):
            found = look()
            self.assertIs(type(found), list)
            found.append(None)
            found.clear()
            self.assertIsNot(look(), look())
        self.equal(desk, mirror)
        given = [("come", 0)]
        other = desk.tried(given)
        given.append(("go", 0))
        self.assertEqual(other.journal(), ["trade 0 2", "come 0"])
        self.equal(desk, mirror)


class Deeds(Case):
    def test_values_and_rows_that_are_none(self):
        desk = Desk(STEPS, 3, [0, 1, 1], [0, 1])
        for wrong in NO_INTEGERS + [3, -1]:
            for function, more in ((desk.renew, (None,)), (desk.trade, (None,)), (desk.come, ()), (desk.go, ())):
                self.refuses(InvalidRow, wrong, function, wrong, *more)
            self.refuses(InvalidRow, wrong, desk.trade, 0, wrong)
            self.refuses(InvalidRow, wrong, desk.trade, 2, wrong)
            self.refuses(InvalidRow, wrong, desk.guess, wrong)
        for wrong in NO_INTEGERS + [2, -1]:
            self.refuses(InvalidValue, wrong, desk.renew, 0, wrong)
            self.fails(OutRow, {"row": 2}, desk.renew, 2, wrong)
        self.fails(OutRow, {"row": 2}, desk.trade, 2, 2)
        self.fails(OutRow, {"row": 2}, desk.trade, 2, 0)
        self.fails(InRow, {"row": 0}, desk.trade, 0, 0)
        self.fails(InRow, {"row": 1}, desk.trade, 0, 1)
        self.fails(InRow, {"row": 1}, desk.come, 1)
        self.fails(OutRow, {"row": 2}, desk.go, 2)
        self.fails(NothingHeld, {}, desk.show)
        self.assertEqual(desk.journal(), [])
        self.assertTrue(desk == Desk(STEPS, 3, (0, 1, 1), (0, 1)))

    def test_twelve_stints_and_one_more(self):
        for rows in (1, 5, 8):
            desk = Desk(STEPS, rows, [0] * rows, [0])
            for turn in range(12 - rows):
                self.assertEqual(desk.renew(0, turn % 2), (turn % 2,))
            self.assertEqual(len(desk.stints()), 12)
            self.fails(TooMany, {"count": 13}, desk.renew, 0, 1)
            self.refuses(InvalidValue, 2, desk.renew, 0, 2)
            desk.undo()
            self.assertEqual([desk.renew(0, 1), len(desk.history())], [(1,), 12])

    def test_six_rows_and_one_more(self):
        desk = Desk(STEPS, 8, [1] * 8, [0, 1, 2, 3, 4])
        self.assertEqual(desk.come(7), (6,))
        self.fails(TooMany, {"count": 7}, desk.come, 5)
        self.fails(InRow, {"row": 7}, desk.come, 7)
        self.assertEqual([desk.trade(7, 6), desk.go(0), desk.come(5)], [(6,), (5,), (6,)])

    def test_twenty_deeds_and_one_more(self):
        desk = Desk(STEPS, 2, [1, 0], [0])
        for turn in range(10):
            self.assertEqual([desk.go(0), desk.come(0)], [(0,), (1,)])
        for deed in (("go", 0), ("trade", 0, 1), ("come", 1), ("renew", 0, 1), ("hold",)):
            self.fails(TooMany, {"count": 21}, do, desk, deed)
            if deed[0] != "hold":
                self.fails(TooMany, {"count": 21}, desk.would_tell, deed)
            self.fails(TooMany, {"count": 21}, desk.tried, [deed])
        # Other errors come ahead.
        self.fails(InRow, {"row": 0}, desk.come, 0)
        self.fails(NothingHeld, {}, desk.show)
        self.fails(InRow, {"row": 0}, desk.would_tell, ("come", 0))
        desk.undo()
        desk.undo()
        self.assertEqual([desk.hold(), desk.show()], [None, (1,)])
        self.fails(TooMany, {"count": 21}, desk.hold)
        self.fails(NothingToRedo, {}, desk.redo)
        self.assertEqual(len(desk.journal()), 20)
        held = Desk(STEPS, 2, [1, 0], [0], True).tried([("go", 0), ("come", 0)] * 10)
        self.fails(TooMany, {"count": 21}, held.show)
        self.fails(AlreadyHeld, {}, held.hold)

    def test_held_back(self):
        desk = Desk(STEPS, 3, [0, 1, 1], [0, 1])
        self.assertIsNone(desk.hold())
        self.fails(AlreadyHeld, {}, desk.hold)
        self.assertEqual([desk.renew(0, 1), desk.trade(1, 2), desk.come(1), desk.go(1)], [None] * 4)
        self.assertEqual(desk.log(), [(1,)])
        self.assertEqual([desk.show(), desk.log()], [(2,), [(1,), (2,)]])
        self.fails(NothingHeld, {}, desk.show)
        # The same sign again.
        self.assertEqual([desk.hold(), desk.show(), desk.log()], [None, (2,), [(1,), (2,), (2,)]])
        self.assertEqual(desk.journal(), ["hold", "renew 0 1", "trade 1 2", "come 1", "go 1", "show", "hold", "show"])
        self.fails(AlreadyHeld, {}, Desk(STEPS, 1, [0], [], True).hold)
        self.assertEqual(Desk(STEPS, 1, [1], [0], held=True).show(), (1,))

    def test_by_name(self):
        desk = Desk(inside=[0, 1], values=[0, 1, 1], rows=3, dials=STEPS, held=True)
        self.assertEqual([desk.renew(value=1, row=0), desk.trade(into=2, out=1), desk.come(row=1), desk.go(row=0)], [None] * 4)
        self.assertEqual(desk.guess(row=0), (0, 1))
        self.assertEqual(desk.would_tell(deed=("come", 0)), desk.would_tell(("come", 0)))
        self.assertEqual(desk.tried(deeds=[("come", 0)]).journal()[-1], "come 0")


class Looks(Case):
    def test_would_tell_is_not_what_the_deed_begins(self):
        desk = Desk(STEPS, 2, [0, 1], [0, 1])
        table = Mirror(STEPS, [0, 1], [0, 1])
        for value in (0, 1):
            self.assertEqual(desk.would_tell(("renew", 0, value)), table.would_tell(("renew", 0, value)))
        # The new stint would be known, too.
        self.assertEqual(desk.tried([("renew", 0, 1)]).known(), [0, 1, 2])
        self.assertEqual(desk.would_tell(("renew", 0, 1)), [0, 1])
        self.assertEqual(desk.journal(), [])

    def test_would_tell_while_signs_are_held_back(self):
        desk = Desk(STEPS, 3, [0, 1, 1], [0, 1])
        desk.hold()
        mirror = Mirror(STEPS, [0, 1, 1], [0, 1])
        mirror.do(("hold",))
        for deed in (("trade", 0, 2), ("go", 0), ("come", 2), ("renew", 0, 1), ("renew", 1, 0)):
            self.assertEqual(desk.would_tell(deed), mirror.would_tell(deed))
        self.assertEqual(desk.would_tell(("trade", 0, 2)), [0, 1, 2])
        self.assertEqual([desk.log(), desk.journal()], [[(1,)], ["hold"]])
        desk.go(0)
        mirror.do(("go", 0))
        # The sign behind the deed alone is shown, not the one that is held back now.
        for deed in (("trade", 1, 2), ("go", 1), ("come", 2), ("come", 0), ("renew", 1, 1)):
            self.assertEqual(desk.would_tell(deed), mirror.would_tell(deed))
        self.assertEqual(desk.would_tell(("come", 0)), [])

    def test_wrong_deeds(self):
        desk = Desk(STEPS, 3, [0, 1, 1], [0, 1])
        wrongs = [value for value in any_values() + NO_DEEDS + [("hold",), ("show",)] if not is_form(value, TABLE_WORDS)]
        for wrong in wrongs:
            self.refuses(InvalidDeed, wrong, desk.would_tell, wrong)
        for deed in (("renew", None, None), ("trade", (), []), ("come", "0"), ("go", True), ("trade", 2, 3), ("renew", -1, 0)):
            self.fails(*Mirror(STEPS, [0, 1, 1], [0, 1]).table().error(deed), desk.would_tell, deed)
        self.refuses(InvalidValue, 7, desk.would_tell, ("renew", 0, 7))
        self.fails(OutRow, {"row": 2}, desk.would_tell, ("renew", 2, 7))

    def test_too_many(self):
        # Behind the beginning nothing is known of eleven stints with two values each.
        dials = Dials([0], [[0], [1]])
        desk = Desk(dials, 8, [0] * 8, [0, 1, 2, 3, 4, 5], True)
        for turn in range(2):
            desk.renew(0, 0)
        self.assertEqual(len(desk.fates()), 10)
        self.assertEqual(desk.guess(0), (0, 1))
        self.fails(TooMany, {"count": 2048}, desk.would_tell, ("renew", 0, 1))
        self.assertEqual(desk.would_tell(("go", 0)), [1, 2, 3, 4, 5])
        desk.renew(0, 0)
        for function in (desk.fates, desk.known, lambda: desk.guess(0), lambda: desk.would_tell(("go", 0))):
            self.fails(TooMany, {"count": 2048}, function)
        self.refuses(InvalidRow, 8, desk.guess, 8)
        self.fails(InRow, {"row": 0}, desk.would_tell, ("come", 0))
        self.refuses(InvalidDeed, ("hold",), desk.would_tell, ("hold",))
        self.assertEqual(len(desk.history()), 11)

    def test_too_many_by_the_words(self):
        told = set()
        rolls = random.Random(173)
        for _ in range(30):
            rows = rolls.randint(4, 8)
            desk = Desk(Dials([3], [[0], [1], [2]]), rows, [0] * rows, [0, 1, 2])
            for _ in range(rolls.randint(0, 5)):
                deed = rolls.choice([each for each in all_deeds(rows, 3) if each[0] in TABLE_WORDS])
                if Mirror(Dials([3], [[0], [1], [2]]), [0] * rows, [0, 1, 2]).table(self.deeds(desk)).error(deed) is None:
                    do(desk, deed)
            scene, history = desk.scene(), desk.history()
            count = 1
            for place in range(len(sights.joints(scene))):
                count *= len(ways(scene, history, place))
            told.add(count > 1024)
            if count > 1024:
                self.fails(TooMany, {"count": count}, desk.known)
            else:
                self.assertEqual(len(desk.fates()), scene.stints)
        self.assertEqual(told, {True, False})

    def deeds(self, desk):
        return [tuple([line.split()[0]] + [int(word) for word in line.split()[1:]]) for line in desk.journal()]

    def test_nothing_is_changed_by_looks(self):
        desk = Desk(STEPS, 3, [0, 1, 1], [0, 1])
        desk.trade(0, 2)
        desk.undo()
        for look in (desk.present, desk.history, desk.stints, desk.log, desk.scene, desk.fates, desk.known, desk.journal, desk.web,
                     lambda: desk.guess(2), lambda: desk.would_tell(("trade", 0, 2)), lambda: desk.tried([("go", 0)])):
            first = look()
            self.assertEqual(look(), first)
        self.assertIsNone(desk.redo())
        self.assertEqual(desk.journal(), ["trade 0 2"])


class BackAndForth(Case):
    def test_a_deed_drops_what_could_be_done_again(self):
        for deed in (("renew", 0, 1), ("trade", 0, 2), ("come", 2), ("go", 0), ("hold",), ("show",)):
            desk = Desk(STEPS, 3, [0, 1, 1], [0, 1], deed[0] == "show")
            for first in (("go", 1), ("come", 1)):
                do(desk, first)
            desk.undo()
            desk.undo()
            desk.redo()
            desk.undo()
            do(desk, deed)
            self.fails(NothingToRedo, {}, desk.redo)
            self.assertEqual(len(desk.journal()), 1)

    def test_refused_deeds_and_looks_drop_nothing(self):
        desk = Desk(STEPS, 3, [0, 1, 1], [0, 1])
        desk.go(1)
        desk.come(2)
        desk.undo()
        desk.undo()
        self.fails(InRow, {"row": 0}, desk.come, 0)
        self.fails(NothingHeld, {}, desk.show)
        self.refuses(InvalidRow, 9, desk.go, 9)
        self.assertEqual(desk.would_tell(("go", 0)), [0, 1])
        desk.tried([("hold",)])
        self.assertIsNone(desk.redo())
        self.assertIsNone(desk.redo())
        self.fails(NothingToRedo, {}, desk.redo)
        self.assertEqual(desk.journal(), ["go 1", "come 2"])
        self.assertEqual(desk.log(), [(1,), (0,), (1,)])

    def test_tried(self):
        rolls = random.Random(174)
        for _ in range(40):
            desk, mirror = desk_and_mirror(rolls)
            words = Desks()
            for _ in range(6):
                words.step(rolls, desk, mirror)
            deeds = []
            for _ in range(rolls.randint(0, 4)):
                deed = rolls.choice(all_deeds(len(mirror.start[1]), mirror.start[0].many))
                if mirror.table(deeds).error(deed) is None:
                    deeds.append(deed)
            other = desk.tried(deeds)
            self.assertIsNot(other, desk)
            beyond = Mirror(*mirror.start)
            beyond.deeds, beyond.undone = mirror.deeds + deeds, [] if deeds else mirror.undone
            words.equal(other, beyond)
            words.equal(desk, mirror)
            self.assertEqual(desk == other, not deeds)
            # Each goes on by itself, and can take back all that counts.
            for _ in range(4):
                words.step(rolls, other, beyond)
                words.step(rolls, desk, mirror)
                words.equal(other, beyond)
                words.equal(desk, mirror)
            while beyond.deeds:
                words.back(other, beyond)
            words.equal(other, beyond)
            words.equal(desk, mirror)

    def test_tried_errors(self):
        desk = Desk(STEPS, 3, [0, 1, 1], [0, 1])
        wrongs = NO_LISTS + [("go", 0)] + [[deed] for deed in NO_DEEDS] + [[("go", 0), deed] for deed in NO_DEEDS]
        for wrong in wrongs:
            self.refuses(InvalidDeeds, wrong, desk.tried, wrong)
        # The form of all deeds counts ahead of the errors of the first one.
        wrong = [("go", 2), ("go",)]
        self.refuses(InvalidDeeds, wrong, desk.tried, wrong)
        self.fails(OutRow, {"row": 0}, desk.tried, [("go", 0), ("go", 0), ("come", 1)])
        self.refuses(InvalidRow, None, desk.tried, [("go", 0), ("go", None)])
        self.refuses(InvalidValue, True, desk.tried, (("renew", 0, True),))
        self.fails(NothingHeld, {}, desk.tried, [("hold",), ("show",), ("show",)])
        self.fails(TooMany, {"count": 21}, desk.tried, [("hold",), ("show",)] * 10 + [("hold",)])
        self.assertEqual(len(desk.tried([("hold",), ("show",)] * 10).log()), 11)
        self.assertEqual(desk.journal(), [])
        self.assertTrue(desk.tried(()) == desk)

    def test_tried_nothing_can_do_again_what_could_be_done_here(self):
        desk = Desk(STEPS, 3, [0, 1, 1], [0, 1])
        desk.go(0)
        desk.come(2)
        desk.undo()
        desk.undo()
        other = desk.tried([])
        other.redo()
        self.assertEqual([other.journal(), desk.journal()], [["go 0"], []])
        desk.redo()
        desk.redo()
        self.assertEqual([other.journal(), desk.journal()], [["go 0"], ["go 0", "come 2"]])
        other.redo()
        self.assertTrue(other == desk)
        self.fails(NothingToRedo, {}, Desk.tried(desk, [("hold",)]).redo)


class Equality(Case):
    def test_desks_that_differ_in_one_thing(self):
        def made(dials=STEPS, values=(0, 1, 1), inside=(0, 1), held=False, deeds=()):
            return Desk(dials, len(values), list(values), list(inside), held).tried(list(deeds))

        self.assertTrue(made() == made())
        self.assertTrue(made() == made(Dials((0,), ((0,), (1,)))))
        deeds = [("hold",), ("show",), ("go", 0)]
        self.assertTrue(made(deeds=deeds) == made(deeds=deeds))
        for other in (made(Dials([0], [[0], [2]])), made(values=(1, 1, 1)), made(values=(0, 1, 1, 0)), made(inside=(0,)),
                      made(inside=()), made(held=True), made(deeds=deeds), made(deeds=[("go", 0)]), None, 3, [], STEPS):
            self.assertFalse(made() == other)
            self.assertTrue(made() != other)
        self.assertFalse(made(deeds=deeds) == made(deeds=deeds[:2]))
        # What could be done again does not count.
        one, other = made(deeds=deeds), made(deeds=deeds[:2])
        one.undo()
        self.assertTrue(one == other)
        # The table is the same, but not the journals.
        self.assertFalse(made(deeds=[("go", 0), ("come", 0)]) == made(deeds=[("go", 1), ("come", 1)]))


if __name__ == "__main__":
    unittest.main()
