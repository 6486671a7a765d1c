"""The error classes: parameters, attributes, base classes and code."""

import unittest

from onlyahead import errors
from onlyahead.machines import Judge, Machine

UNDER_AHEAD = {
    "InvalidAlphabet": ("given",),
    "InvalidWord": ("given",),
    "InvalidLetter": ("given",),
    "InvalidState": ("given",),
    "InvalidRows": ("at",),
    "InvalidLine": ("at",),
    "InvalidPrime": ("given",),
    "InvalidSet": ("given",),
    "InvalidText": ("row",),
    "InvalidPage": ("row",),
    "InvalidName": ("given",),
    "InvalidLimit": ("given",),
    "WrongKind": ("name",),
    "AlphabetsDiffer": (),
    "TooMany": ("subject", "most"),
    "Barred": ("answer",),
}
UNDER_OTHERS = {"UnknownName": ("name",), "NothingLeft": ()}
VALUES = (["x", (None, True)], 7)


class ErrorTest(unittest.TestCase):
    def test_bases(self):
        self.assertEqual(errors.AheadError.__bases__, (ValueError,))
        self.assertEqual(errors.Missing.__bases__, (LookupError,))
        self.assertEqual(errors.NothingLeft.__bases__, (IndexError,))
        self.assertEqual(errors.UnknownName.__bases__, (errors.Missing,))
        for name in UNDER_AHEAD:
            self.assertEqual(getattr(errors, name).__bases__, (errors.AheadError,), name)

    def test_attributes_and_code(self):
        for name, parameters in {**UNDER_AHEAD, **UNDER_OTHERS}.items():
            values = VALUES[: len(parameters)]
            by_position = getattr(errors, name)(*values)
            by_name = getattr(errors, name)(**dict(zip(parameters, values)))
            for error in (by_position, by_name):
                self.assertEqual(error.code, name)
                for parameter, value in zip(parameters, values):
                    self.assertIs(getattr(error, parameter), value)

    def test_parameters_are_needed(self):
        for name, parameters in {**UNDER_AHEAD, **UNDER_OTHERS}.items():
            with self.assertRaises(TypeError):
                getattr(errors, name)(*VALUES[: len(parameters)], 1)
            if parameters:
                with self.assertRaises(TypeError):
                    getattr(errors, name)()

    def test_the_two_bases_have_no_code(self):
        self.assertFalse(hasattr(errors.AheadError(), "code"))
        self.assertFalse(hasattr(errors.Missing(), "code"))

    def test_all_stand_in_their_file(self):
        for name in [*UNDER_AHEAD, *UNDER_OTHERS, "AheadError", "Missing"]:
            self.assertEqual(getattr(errors, name).__module__, "onlyahead.errors")

    def test_bases_catch(self):
        with self.assertRaises(ValueError):
            Machine("ba", [(0, 0)])
        with self.assertRaises(errors.AheadError):
            Judge("a", [(0,)], [1])


if __name__ == "__main__":
    unittest.main()
