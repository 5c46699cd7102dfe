import unittest

from oneforone.calendars import answer_at, calendar
from oneforone.errors import InvalidCalendar, InvalidSize, InvalidWord
from oneforone.failures import Disordered
from oneforone.totals import Total
from tests.cases import NO_INTEGERS, Case
from tests.runs import LAST, ODD, SOME, behind, disordered_totals, modular, orderless_totals, sign, signs_of_bags
from tests.test_orders import shows_disorder
from tests.walks import all_bags, any_values, plus

WORDS = ("seen", "even", "sharp", "clear")
BIG = 98765432109876543210


class Sights:
    """The words of the point at one size, by all bags of that size."""

    def __init__(self, total, size):
        signs = dict(zip(all_bags(total.many, size), signs_of_bags(total, size)))
        self.ahead = {bag: sign(total, bag) for bag in all_bags(total.many, size - 1)}
        self.rows = {bag: [signs[plus(bag, value)] for value in range(total.many)] for bag in self.ahead}
        self.matches = {tuple((a, c) for a, one in enumerate(first) for c, other in enumerate(second) if one == other)
                        for first in map(tuple, self.unlike()) for second in self.unlike()}

    def unlike(self):
        return sorted({tuple(row) for row in self.rows.values()})

    def seen(self):
        return all(len(set(row)) == len(row) for row in self.rows.values())

    def even(self):
        return all(one == other or not set(one) & set(other) for one in self.matches for other in self.matches)

    def sharp(self):
        return all(len(match) <= 1 or all(a == c for a, c in match) for match in self.matches)

    def clear(self):
        rows = sorted({(self.ahead[bag],) + tuple(row) for bag, row in self.rows.items()})
        return not any(one[0] == other[0] and a != c and one[1 + a] == other[1 + c]
                       for one in rows for other in rows for a in range(len(one) - 1) for c in range(len(one) - 1))

    def answer(self, word):
        return {"seen": self.seen, "even": self.even, "sharp": self.sharp, "clear": self.clear}[word]()


class Calendars(Case):
    def test_answers(self):
        told = {word: set() for word in WORDS}
        for total in orderless_totals():
            calendars = {word: calendar(total, word) for word in WORDS}
            for size in range(1, {1: 14, 2: 13, 3: 8, 4: 7}[total.many]):
                sights = Sights(total, size)
                for word in WORDS:
                    answer = answer_at(calendars[word], size)
                    self.assertIs(answer, sights.answer(word), (word, size, total.steps, total.signs))
                    told[word].add(answer)
        self.assertEqual(set(map(frozenset, told.values())), {frozenset({True, False})})

    def test_first_and_the_number_of_answers(self):
        lengths = set()
        for total in orderless_totals():
            parts = [behind(total, size) for size in range(70)]
            many = min(size for size in range(1, 70) if parts[size] in parts[:size])
            for word in WORDS:
                first, answers = calendar(total, word)
                self.assertEqual([first, len(answers)], [parts.index(parts[many]) + 1, many])
                self.assertTrue(type(answers) is tuple and all(type(answer) is bool for answer in answers))
                self.assertIs(type(calendar(total, word)), tuple)
            lengths.add((first, many))
        self.assertTrue({(1, 1), (1, 7), (2, 2)} <= lengths)
        self.assertTrue(any(first > 2 for first, _ in lengths))

    def test_examples(self):
        self.assertEqual([calendar(ODD, "even"), calendar(ODD, "clear")], [(2, (True, True)), (2, (True, True))])
        self.assertEqual(calendar(SOME, "seen"), (2, (True, False)))
        turn = modular([3], [[1], [1]], [0, 1, 2])
        self.assertEqual(calendar(turn, "seen"), (1, (False,) * 3))
        path = Total(2, [[1, 1], [2, 2], [3, 3], [3, 3]], [0, 1, 2, 3])
        self.assertEqual([calendar(path, "seen"), calendar(path, "even")], [(4, (False,) * 4), (4, (True,) * 4)])
        caps = Total(2, [[0, 1], [1, 2], [2, 3], [3, 3]], [0, 1, 2, 3])
        self.assertEqual([calendar(caps, "seen"), calendar(caps, "even")],
                         [(4, (True, True, True, False)), (4, (True, True, True, False))])

    def test_wrong_words(self):
        for total in (ODD, LAST):
            for wrong in NO_INTEGERS + [0, "Seen", "seen ", "unseen", "round", ("seen",), ["seen"], [["seen"]], b"seen"]:
                self.refuses(InvalidWord, wrong, calendar, total, wrong)

    def test_disordered(self):
        for total in disordered_totals():
            for word in WORDS:
                self.fails_with(Disordered, lambda value: shows_disorder(total, value), calendar, total, word)


class Answers(Case):
    def test_sizes(self):
        given = (3, (True, False, False, True, False))
        expected = [True, False] + [False, True, False] * 20
        self.assertEqual([answer_at(given, size) for size in range(1, 60)], expected[:59])
        for size in (BIG, BIG + 1, BIG + 2, 10 ** 19, 10 ** 20 - 1):
            self.assertIs(answer_at(given, size), [False, True, False][(size - 3) % 3])
        self.assertEqual([answer_at((1, (True,)), size) for size in (1, 2, BIG)], [True] * 3)
        self.assertEqual([answer_at((2, (True, False)), size) for size in (1, 2, 3, BIG)], [True, False, False, False])

    def test_sixty_answers(self):
        answers = tuple(at % 7 == 0 for at in range(60))
        self.assertEqual([answer_at((1, answers), size) for size in (1, 8, 60, 61, 68)], [True, True, False, True, True])
        self.assertEqual([answer_at((60, answers), size) for size in (57, 60, 61, BIG)], [True, False, False, False])

    def test_wrong_calendars(self):
        right = (1, (True, False))
        wrongs = any_values() + [(0, (True,)), (2, (True,)), (-1, (True,)), (1, ()), (1, [True]), [1, (True,)], (1, (1,)),
                                 (1, (True, 0)), (True, (True,)), (1, (True,), 1), (1,), (1, (None,)), (1, (True,) * 61),
                                 (61, (True,) * 61), ("1", (True,)), (1, True), ((True,), 1), (1, "TF"), (3, (True, False))]
        for wrong in wrongs:
            self.refuses(InvalidCalendar, wrong, answer_at, wrong, 1)
            self.refuses(InvalidCalendar, wrong, answer_at, wrong, None)
        for wrong in NO_INTEGERS + [0, -1, -BIG]:
            self.refuses(InvalidSize, wrong, answer_at, right, wrong)


if __name__ == "__main__":
    unittest.main()
