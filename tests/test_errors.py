"""errors.py: KitError and the 22 classes under it."""

import unittest

from selfkits import errors

NAMES = [
    "InvalidNumber", "InvalidPoint", "InvalidOffset", "InvalidTable", "InvalidKit", "InvalidState",
    "InvalidWalk", "InvalidAddress", "InvalidPaper", "InvalidPair", "InvalidPower", "InvalidZoom",
    "InvalidTurn", "InvalidWay", "InvalidName", "UnknownName", "NoSquares", "NoMeeting", "NoReturn",
    "NothingToUndo", "Unreadable", "Unorderly",
]
VALUES = [0, -7, 10 ** 50, True, None, "", "a line\nand one more", (), ((1, 0), (0, 1)), (0, 0, (9, 9)), [1, [2]]]


def made(name):
    return getattr(errors, name)


class ErrorsTest(unittest.TestCase):
    def test_there_are_22_and_the_one_above(self):
        self.assertEqual(len(NAMES), 22)
        found = [name for name, told in vars(errors).items() if isinstance(told, type)]
        self.assertEqual(sorted(found), sorted(NAMES + ["KitError"]))

    def test_each_is_defined_in_errors(self):
        for name in NAMES + ["KitError"]:
            self.assertEqual(made(name).__module__, "selfkits.errors")
            self.assertEqual(made(name).__name__, name)

    def test_what_each_derives_from(self):
        self.assertEqual(errors.KitError.__bases__, (ValueError,))
        for name in NAMES:
            self.assertEqual(made(name).__bases__, (errors.KitError,))

    def test_value_by_position_and_by_name(self):
        for name in NAMES + ["KitError"]:
            for value in VALUES:
                self.assertIs(made(name)(value).value, value)
                self.assertIs(made(name)(value=value).value, value)

    def test_just_one_argument(self):
        for name in NAMES + ["KitError"]:
            with self.assertRaises(TypeError):
                made(name)()
            with self.assertRaises(TypeError):
                made(name)(1, 2)

    def test_raised_and_caught(self):
        for name in NAMES:
            for error in (made(name)((1, 2)), made(name)(value=(1, 2))):
                for kind in (made(name), errors.KitError, ValueError):
                    with self.assertRaises(kind) as caught:
                        raise error
                    self.assertEqual(caught.exception.value, (1, 2))

    def test_caught_as_no_other(self):
        for name in NAMES:
            for other in NAMES:
                if other != name:
                    self.assertFalse(issubclass(made(name), made(other)))
                    with self.assertRaises(made(name)):
                        try:
                            raise made(name)(3)
                        except made(other):
                            self.fail(f"{name} caught as {other}")

    def test_the_one_above_is_none_of_the_22(self):
        for error in (errors.KitError(5), errors.KitError(value=5)):
            with self.assertRaises(ValueError) as caught:
                raise error
            self.assertIs(type(caught.exception), errors.KitError)
            self.assertEqual(caught.exception.value, 5)


if __name__ == "__main__":
    unittest.main()
