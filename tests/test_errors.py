"""The limits and the error classes."""

import inspect
import unittest

from borderflow import errors
from tests.cases import Case

WRONG_VALUES = {
    "InvalidNumber": ["value"],
    "InvalidWord": ["value"],
    "InvalidWindow": ["low", "high"],
    "InvalidTable": ["at"],
    "InvalidText": ["line", "why"],
    "InvalidSizes": [],
    "InvalidDeed": ["at"],
    "InvalidSide": ["value"],
    "InvalidPart": ["at"],
    "InvalidMatching": ["at"],
    "InvalidZone": ["at"],
    "InvalidFrame": [],
    "InvalidSaying": [],
    "InvalidName": ["value"],
    "InvalidThing": ["name"],
    "NotAllowed": ["sign", "cell"],
    "NotBack": [],
    "Loses": ["one", "other"],
    "UnlikeSigns": ["one", "other"],
    "UnlikeFlows": ["one", "other"],
    "UnlikeGrounds": [],
    "UnlikeFloors": [],
    "UnlikeMachines": [],
    "NoSpeed": ["prime", "other"],
    "UnlikeSpeeds": ["one", "other"],
    "TooNarrow": ["zone", "least"],
    "TooMany": ["what", "count"],
    "CellsLeft": ["count"],
    "CantStand": ["name"],
    "DuplicateName": ["name"],
    "Refused": ["at"],
}
MISSING = {"UnknownName": ["name"], "WrongThing": ["name"]}


class Errors(Case):
    def test_limits(self):
        told = [
            ("signs", 16), ("table", 4096), ("pairs", 4096), ("halves", 256), ("words", 4096), ("seam", 256),
            ("tracks", 64), ("deeds", 12), ("zones", 6), ("ticks", 12), ("sayings", 12), ("seen", 256),
        ]
        self.assertIs(type(errors.LIMITS), dict)
        self.assertEqual(list(errors.LIMITS.items()), told)

    def test_bases(self):
        self.assertEqual(errors.BorderError.__bases__, (ValueError,))
        self.assertEqual(errors.Missing.__bases__, (LookupError,))
        self.assertEqual(errors.NothingLeft.__bases__, (IndexError,))
        for name in WRONG_VALUES:
            self.assertEqual(getattr(errors, name).__bases__, (errors.BorderError,), name)
        for name in MISSING:
            self.assertEqual(getattr(errors, name).__bases__, (errors.Missing,), name)

    def test_no_other_class(self):
        found = {name for name, value in vars(errors).items() if isinstance(value, type)}
        self.assertEqual(found, set(WRONG_VALUES) | set(MISSING) | {"BorderError", "Missing", "NothingLeft"})

    def test_parameters_and_attributes(self):
        told = {**WRONG_VALUES, **MISSING, "NothingLeft": []}
        for name, parameters in told.items():
            error = getattr(errors, name)
            self.assertEqual(list(inspect.signature(error).parameters), parameters, name)
            values = tuple((name, at, None, True) for at in range(len(parameters)))
            self.shows(error, values, error(*values))
            self.shows(error, values, error(**dict(zip(parameters, values))))

    def test_values_are_kept_as_they_are(self):
        value = [1, [2]]
        self.assertIs(errors.InvalidNumber(value).value, value)

    def test_no_code_for_the_two_bases(self):
        self.assertFalse(hasattr(errors.BorderError(), "code"))
        self.assertFalse(hasattr(errors.Missing(), "code"))


if __name__ == "__main__":
    unittest.main()
