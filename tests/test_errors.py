"""Section 17: the errors, and what they keep."""

import inspect
import unittest

from opengates import errors
from tests.helpers import any_values

NAMES = """
    BadBook NoMark NoKind OtherKinds BadNames NotAbove TooGreat TooMany BadScript NoName OtherGates
    BadGates BadNet NotPlain TooWide BadRow OtherBook OpenGates BadFactor BadAround BadBy BadRows
    BadBooks BadLength BadWidth OtherLength BadWorths BadScripts BadNumber OtherBy BadLine Later
    Wanted NothingToUndo NothingToRedo NoTrial BadJournal
""".split()


class Errors(unittest.TestCase):
    def test_gate_error_is_directly_below_value_error(self):
        self.assertEqual(errors.GateError.__bases__, (ValueError,))

    def test_all_others_are_directly_below_gate_error(self):
        for name in NAMES:
            self.assertEqual(getattr(errors, name).__bases__, (errors.GateError,), name)

    def test_there_are_no_others(self):
        found = [name for name, value in vars(errors).items() if inspect.isclass(value)]
        self.assertEqual(sorted(found), sorted(NAMES + ["GateError"]))

    def test_each_is_defined_in_this_file_under_its_own_name(self):
        for name in NAMES + ["GateError"]:
            error = getattr(errors, name)
            self.assertEqual((error.__name__, error.__module__), (name, "opengates.errors"))

    def test_each_keeps_any_value_and_can_be_raised_and_caught(self):
        for name in NAMES + ["GateError"]:
            error = getattr(errors, name)
            for value in any_values() + [error, ValueError("x")]:
                with self.assertRaises(errors.GateError) as caught:
                    raise error(value)
                self.assertIs(type(caught.exception), error)
                self.assertIs(caught.exception.value, value)

    def test_each_takes_just_one_argument(self):
        for name in NAMES + ["GateError"]:
            error = getattr(errors, name)
            self.assertRaises(TypeError, error)
            self.assertRaises(TypeError, error, 1, 2)


if __name__ == "__main__":
    unittest.main()
