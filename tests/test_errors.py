"""Point 0.3: the classes of errors."""

import unittest

import bothfree.errors
from bothfree.errors import BadThings, BrokenBases, LotError, NotFree

ATTRIBUTES = {
    "BadThings": ["index"], "BadLot": ["index"], "NoThing": ["thing"], "InLot": ["thing"], "NotFree": [],
    "NotBase": [], "UnlikeThings": [], "SameThing": ["thing"], "TooMany": ["limit"], "BadWeights": ["thing"],
    "BadNumber": ["number"], "BadBases": ["index"], "BrokenBases": ["one", "other", "thing"], "BadNames": ["thing"],
    "BadPlaces": ["index"], "BadTies": ["name"], "NoText": ["line"], "NothingToUndo": [], "BadRows": ["thing"],
    "BadRooms": ["index"], "CrossedRooms": ["one", "other"], "BadJobs": ["person"], "BadSteps": ["index"],
    "BadDoors": ["index"], "BadGates": ["index"], "BadPaper": [], "BadPlayer": ["name"], "Gone": ["thing"],
    "BadDeed": [], "NothingToRedo": [],
}


class Point_0_3(unittest.TestCase):
    def test_every_class_stands_directly_under_lot_error(self):
        self.assertEqual(LotError.__bases__, (ValueError,))
        for name in ATTRIBUTES:
            with self.subTest(name):
                self.assertEqual(getattr(bothfree.errors, name).__bases__, (LotError,))

    def test_there_are_no_other_classes(self):
        found = [name for name, value in vars(bothfree.errors).items() if isinstance(value, type)]
        self.assertEqual(sorted(found), sorted([*ATTRIBUTES, "LotError"]))

    def test_every_class_is_made_by_position_of_any_values_and_keeps_them(self):
        for name, attributes in ATTRIBUTES.items():
            for values in ([1, 2, 3], [["a"], {"b": None}, ("c",)], [None, b"", True]):
                kept = values[:len(attributes)]
                error = getattr(bothfree.errors, name)(*kept)
                with self.subTest(name, values=values):
                    self.assertEqual(list(vars(error)), attributes)
                    for attribute, value in zip(attributes, kept):
                        self.assertIs(getattr(error, attribute), value)

    def test_errors_can_be_raised_and_shown(self):
        for error in (BadThings(["x"]), BrokenBases(1, 2, 3), NotFree()):
            with self.assertRaises(LotError) as caught:
                raise error
            self.assertIsInstance(str(caught.exception), str)
            self.assertIsInstance(caught.exception, ValueError)
