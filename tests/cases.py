"""What the tests share: how errors are asked for, and wrong arguments."""

import unittest

NO_INTEGERS = [True, False, None, "1", "", (1,), [1], [], (), {}, {"a": 1}]
NO_LISTS = [None, True, 3, "01", {}, {"a": 1}]
NO_BAGS_OF_TWO = [None, True, 1, "01", [], [0], [0, 1], {}, (0,), (0, 1, 1), (1, 0), (0, True), (False, 0), (0, None),
                  (0, "1"), (-1, 0), (0, 9), ((0,), (1,)), ([0], 1)]
NO_CHANGES = [None, True, 1, "01", [], [0, 1], {}, (), (0,), (0, 1, 1), (0, True), (False, 0), (0, None), (0, "1"),
              (-1, 0), (0, 9), (9, 0), ((0, 1), (0, 1))]


class Case(unittest.TestCase):
    def refuses(self, error, given, function, *args):
        """The call raises just this error, with this very object as `given`."""
        with self.assertRaises(ValueError) as caught:
            function(*args)
        self.assertIs(type(caught.exception), error, (function, args))
        self.assertIs(caught.exception.given, given)
        self.assertEqual(list(vars(caught.exception)), ["given"])

    def fails(self, error, attributes, function, *args):
        """The call raises just this error, with just these attributes."""
        with self.assertRaises(ValueError) as caught:
            function(*args)
        self.assertIs(type(caught.exception), error, (function, args))
        self.assertEqual(vars(caught.exception), attributes)

    def fails_with(self, error, is_witness, function, *args):
        """The call raises just this error, with a right witness."""
        with self.assertRaises(ValueError) as caught:
            function(*args)
        self.assertIs(type(caught.exception), error, (function, args))
        self.assertTrue(is_witness(caught.exception.witness))
        self.assertEqual(list(vars(caught.exception)), ["witness"])

    def judges(self, judge, oracle, values):
        """The judge says of each of the values what the test's own walk says, and always a bool."""
        for value in values:
            answer = judge(value)
            self.assertIs(type(answer), bool)
            self.assertEqual(answer, oracle(value), value)
