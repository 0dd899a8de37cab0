"""The errors and the limits of the interface."""

import unittest

from shearyard import errors, limits
from shearyard.errors import YardError

ONE_PLACE = (
    "InvalidBed", "InvalidPlant", "InvalidStump", "InvalidReader", "InvalidShear", "InvalidTrim", "InvalidPrices",
    "InvalidCard", "Changed", "Stopped", "UnknownDeed",
)
ARGUMENTS = {
    **{name: ("place",) for name in ONE_PLACE},
    "InvalidText": ("text",), "InvalidPicture": ("what",), "InvalidName": ("name",), "UnknownName": ("name",),
    "UnknownKind": ("kind",), "TooMany": ("what", "limit"), "WrongBranches": ("wanted", "given"),
    "NoPath": ("path",), "NoSpot": ("path", "index"), "NoState": ("state",), "NoChoice": ("choice",),
    "Copies": ("state", "kind"), "Refused": ("place", "plant"), "Tangled": ("name",), "HasSource": ("name",),
    "Conflict": ("number",), "InvalidBudget": ("value",),
    "InvalidWeighing": (), "NotAlike": (), "NeverSeen": (), "NoPlant": (), "NoTrims": (), "OtherBed": (),
    "NothingToUndo": (), "NothingToRedo": (),
}
SAMPLES = {
    "place": 3, "text": "leaf/", "what": "knots", "name": "oak", "kind": "rose", "limit": 2000, "wanted": 2,
    "given": 1, "path": (0, 1), "index": 4, "state": 5, "choice": (1, 0), "plant": ("leaf",), "number": 7,
    "value": 101,
}
LIMITS = {
    "MOST_KINDS": 8, "MOST_BRANCHES": 3, "MOST_KNOTS": 2000, "MOST_STATES": 40, "MOST_ENTRIES": 200,
    "MOST_GARDENERS": 8, "MOST_ORDERED": 4, "MOST_EQUATIONS": 2000, "MOST_TRIMS": 8, "MOST_HOLES": 3,
    "MOST_PLANTS": 2000, "MOST_CARDS": 500, "MOST_FACTS": 20, "MOST_NAMES": 8, "MOST_WATCHED": 4,
    "MOST_UNDONE": 100,
}


class Errors(unittest.TestCase):
    def test_base(self):
        self.assertEqual(YardError.__bases__, (ValueError,))

    def test_every_error_is_directly_below_the_base(self):
        for name in ARGUMENTS:
            with self.subTest(name):
                error = getattr(errors, name)
                self.assertEqual(error.__bases__, (YardError,))
                self.assertEqual(error.__module__, "shearyard.errors")

    def test_arguments_are_attributes_in_order(self):
        for name, attributes in ARGUMENTS.items():
            with self.subTest(name):
                values = [SAMPLES[attribute] for attribute in attributes]
                error = getattr(errors, name)(*values)
                self.assertEqual(list(vars(error).items()), list(zip(attributes, values)))

    def test_the_number_of_arguments_is_fixed(self):
        for name, attributes in ARGUMENTS.items():
            if attributes:
                with self.subTest(name), self.assertRaises(TypeError):
                    getattr(errors, name)(*[0 for _ in attributes], 0)

    def test_large_numbers_can_be_arguments(self):
        huge = 10 ** 6000
        self.assertEqual(errors.InvalidBudget(huge).value, huge)
        self.assertEqual(errors.NoState(huge).state, huge)
        self.assertEqual(errors.NoPath((huge,)).path, (huge,))

    def test_no_other_errors(self):
        own = [name for name, value in vars(errors).items() if isinstance(value, type)]
        self.assertEqual(sorted(own), sorted([*ARGUMENTS, "YardError"]))


class Limits(unittest.TestCase):
    def test_constants(self):
        own = {name: value for name, value in vars(limits).items() if name.startswith("MOST")}
        self.assertEqual(own, LIMITS)
