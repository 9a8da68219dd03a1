"""Point 5: the error classes."""

import unittest

from quorumdrift import errors

ATTRIBUTES = {
    "InvalidList": ["place"],
    "UnlikeKeys": ["key"],
    "UnknownKey": ["key"],
    "UnknownReplica": ["replica"],
    "InvalidState": ["replica"],
    "SharedKey": ["key"],
    "InvalidReading": ["pair"],
    "OutOfRange": ["limit"],
    "TooMany": ["limit"],
    "InvalidLine": ["line"],
    "FailedLine": ["line"],
    "InvalidSwap": ["step"],
    "AudibleSwap": ["step"],
    "InvalidMove": [],
    "NotReachable": ["certificate"],
    "CannotHold": ["claim"],
    "InvalidDealing": ["place"],
    "NoDealing": ["reason"],
    "NoReplica": ["reason"],
    "InvalidSide": ["side"],
    "InvalidContents": [],
    "UnlikeContents": [],
    "UnknownPlace": ["place"],
    "InvalidChange": ["step"],
    "AudibleChange": ["step"],
    "SplitPair": ["pair"],
    "NotAMover": ["replica"],
    "NothingToUndo": [],
    "NothingToRedo": [],
    "UnknownName": ["name"],
    "InvalidOption": ["option"],
    "Full": ["limit"],
}


class ErrorsTest(unittest.TestCase):
    def test_drift_error_is_directly_a_value_error(self):
        self.assertEqual(errors.DriftError.__bases__, (ValueError,))

    def test_every_error_stands_directly_under_drift_error(self):
        for name in ATTRIBUTES:
            with self.subTest(name):
                self.assertEqual(getattr(errors, name).__bases__, (errors.DriftError,))

    def test_there_are_no_other_errors(self):
        found = {name for name, value in vars(errors).items() if isinstance(value, type)}
        self.assertEqual(found, set(ATTRIBUTES) | {"DriftError"})

    def test_attributes_are_the_arguments_in_order(self):
        for name, attributes in ATTRIBUTES.items():
            with self.subTest(name):
                worths = [object() for _ in attributes]
                error = getattr(errors, name)(*worths)
                self.assertEqual(vars(error), dict(zip(attributes, worths)))

    def test_no_argument_more_is_taken(self):
        for name, attributes in ATTRIBUTES.items():
            if attributes:
                with self.subTest(name), self.assertRaises(TypeError):
                    getattr(errors, name)()
                with self.subTest(name), self.assertRaises(TypeError):
                    getattr(errors, name)(*[0 for _ in attributes], 0)

    def test_constructors_check_nothing(self):
        for name, attributes in ATTRIBUTES.items():
            for worth in (-1, None, "x", (), [1], 10 ** 30):
                with self.subTest(name, worth=worth):
                    error = getattr(errors, name)(*[worth for _ in attributes])
                    self.assertEqual(vars(error), {attribute: worth for attribute in attributes})

    def test_errors_can_be_raised_and_caught(self):
        for name, attributes in ATTRIBUTES.items():
            for caught in (getattr(errors, name), errors.DriftError, ValueError):
                with self.subTest(name, caught=caught), self.assertRaises(caught):
                    raise getattr(errors, name)(*[3 for _ in attributes])


if __name__ == "__main__":
    unittest.main()
