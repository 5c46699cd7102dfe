import unittest

from oneforone import errors, failures
from tests.cases import Case

INVALID = """Values Size Bag Value Signs Other Line Change Sign Kind Steps Log Kinds Move Rounds Marks Set Shift Dials
Caps Modulus Things Word Calendar Stints Readers Reader Ask History Stint Lot Joint Rows Inside Source Script Numbers
Deeds Places Ties Filling Tie Ring Number Weights Cuts Prices Rests Towns Roads Road Lots Queues Length Creases Place
Axes Row Deed""".split()

FAILURES = {
    "NotInBag": "value", "NotEven": "witness", "NotSeen": "witness", "TooSmall": "size", "Apart": "one other",
    "NoStep": "ahead kind", "NotThere": "at", "NoKind": "at", "NoMove": "one other", "SameMarks": "one other",
    "NotTwo": "many", "NoMixture": "one other", "Disordered": "witness", "Broken": "witness", "TooMany": "count",
    "NotALink": "link", "UnevenReader": "reader size", "UnseenReader": "reader size", "UnsharpReader": "reader size",
    "UnclearReader": "reader size", "Barred": "stint", "Rigid": "chosen", "EvenBoard": "", "SharpBoard": "",
    "SumBoard": "", "Hidden": "move", "NoAsks": "reader", "Pieces": "reader", "NotCounts": "reader",
    "NoSuchTrade": "out into", "NotOpen": "stint", "NotDials": "reader", "NotLive": "joint",
    "Beyond": "least greatest", "NoFilling": "places", "OnePlace": "", "StuckTie": "tie", "NoRing": "",
    "NotJoined": "town", "SameRoad": "road", "OutRow": "row", "InRow": "row", "AlreadyHeld": "", "NothingHeld": "",
    "NothingToUndo": "", "NothingToRedo": "", "NotOneDial": "", "Twice": "stint",
}


class Errors(Case):
    def listed(self):
        for name in INVALID:
            yield errors, "Invalid" + name, ["given"]
        for name, attributes in FAILURES.items():
            yield failures, name, attributes.split()

    def test_bases(self):
        self.assertEqual(errors.BoardError.__bases__, (ValueError,))
        for module, name, _ in self.listed():
            error = getattr(module, name)
            self.assertEqual(error.__bases__, (errors.BoardError,), name)
            self.assertEqual(error.__module__, module.__name__)

    def test_all_are_there(self):
        self.assertEqual(len(INVALID), 59)
        self.assertEqual(len(FAILURES), 48)
        for module, names in ((errors, ["BoardError"] + ["Invalid" + name for name in INVALID]),
                              (failures, list(FAILURES))):
            own = [name for name, each in vars(module).items()
                   if isinstance(each, type) and each.__module__ == module.__name__]
            self.assertEqual(sorted(own), sorted(names))

    def test_created_by_position_and_by_name(self):
        values = [[1, [2]], {"a": []}, None, True, 7, "x", (1, []), object()]
        for module, name, attributes in self.listed():
            error = getattr(module, name)
            for shift in range(len(values)):
                given = [values[(shift + at) % len(values)] for at in range(len(attributes))]
                for made in (error(*given), error(**dict(zip(attributes, given)))):
                    self.assertEqual(list(vars(made)), attributes)
                    for attribute, value in zip(attributes, given):
                        self.assertIs(getattr(made, attribute), value)

    def test_raised_and_caught(self):
        for module, name, attributes in self.listed():
            given = [[at] for at in range(len(attributes))]
            with self.assertRaises(ValueError) as caught:
                raise getattr(module, name)(*given)
            self.assertIsInstance(caught.exception, errors.BoardError)


if __name__ == "__main__":
    unittest.main()
