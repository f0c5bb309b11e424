"""Errors [0.6]."""

import unittest

from namesakes import errors
from namesakes.errors import CustomError
from tests.families import ODD_THINGS

ERRORS = {
    "BadRecord": ("index", "what"), "NoPerson": ("label",), "BadWay": ("way",), "NoRow": ("number",),
    "BadWidth": ("width",), "BadText": ("row", "what"), "BadPairs": ("what",), "BadCondition": ("what",),
    "BadClause": ("index", "what"), "BadCustom": ("part", "index", "what"), "BadKind": ("kind",),
    "TooWide": ("what",), "BadChoice": ("label", "name", "bar"), "NoCouple": ("father", "mother"),
    "NoPlace": ("what",), "NoRoot": ("root",), "BadOrder": ("position", "what"), "BadPattern": ("index", "what"),
    "BadNames": ("index", "what"), "BadPlaces": ("index", "what"), "BadClass": ("number",), "BadMatch": ("what",),
    "BadCount": ("number",), "BadIndex": ("index",), "BadJoining": ("index", "what"), "NoRenaming": ("place",),
    "BadScope": ("what",), "BadState": ("what",), "BadTable": ("index", "what"), "BadPlay": ("index",),
    "NeverComes": ("state",), "NotUnwed": ("label",), "BadAsked": ("what",), "TooLong": ("times",),
    "NoWays": ("what",), "NoState": ("state",), "BadWord": ("word",), "BadLength": ("length",),
    "BadOrigin": ("origin",), "NotLet": ("one", "other"), "BadNumber": ("number",), "BadLine": ("index", "what"),
    "BadGeneration": ("n",), "UnlikePlans": (), "BadPair": ("index", "what"), "BadLand": ("what",),
    "BadSecond": ("index", "what"), "BadPage": ("index", "what"), "BadSeen": ("index", "what"),
    "BadFilling": ("what",), "BadNotice": ("what",), "BadChange": ("index", "what"), "BadPrices": ("index",),
}


class ErrorsTest(unittest.TestCase):
    def test_custom_error_is_directly_under_value_error(self):
        self.assertEqual(CustomError.__bases__, (ValueError,))

    def test_it_can_be_made_with_any_number_of_things(self):
        for many in range(4):
            self.assertIsInstance(CustomError(*ODD_THINGS[:many]), ValueError)

    def test_each_other_error_is_directly_under_custom_error(self):
        for name in ERRORS:
            self.assertEqual(getattr(errors, name).__bases__, (CustomError,), name)

    def test_there_are_no_others(self):
        found = [name for name, thing in vars(errors).items() if isinstance(thing, type)]
        self.assertEqual(sorted(found), sorted([*ERRORS, "CustomError"]))

    def test_each_keeps_things_of_every_kind_in_order(self):
        for name, attributes in ERRORS.items():
            for start in range(len(ODD_THINGS)):
                things = (ODD_THINGS[start:] + ODD_THINGS[:start])[:len(attributes)]
                error = getattr(errors, name)(*things)
                for attribute, thing in zip(attributes, things):
                    self.assertIs(getattr(error, attribute), thing, (name, attribute))

    def test_each_keeps_things_passed_by_name(self):
        for name, attributes in ERRORS.items():
            things = {attribute: object() for attribute in attributes}
            error = getattr(errors, name)(**things)
            self.assertEqual({attribute: getattr(error, attribute) for attribute in attributes}, things)

    def test_a_number_too_long_for_a_text_is_kept(self):
        self.assertEqual(errors.BadIndex(10 ** 5000).index, 10 ** 5000)

    def test_not_let_may_have_one_word_alone(self):
        self.assertIsNone(errors.NotLet("s").other)
