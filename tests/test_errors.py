"""Limits and errors ([10])."""

import unittest

from sealshelf import errors

FAMILIES = {
    "InvalidPaper": ("PaperError", ("word", "at")),
    "UnknownHolder": ("DeedError", ("holder",)),
    "InvalidStep": ("DeedError", ("step", "word")),
    "Locked": ("DeedError", ("thing",)),
    "NothingToUndo": ("DeedError", ("count",)),
    "InvalidMoment": ("DeedError", ("moment",)),
    "InvalidText": ("TextError", ("row", "field")),
    "InvalidCommand": ("TextError", ("text",)),
}


class Errors(unittest.TestCase):
    def test_each_error_derives_directly_from_its_family(self):
        for name, (family, _) in FAMILIES.items():
            self.assertEqual(getattr(errors, name).__bases__, (getattr(errors, family),), name)

    def test_each_family_derives_directly_from_shelf_error(self):
        for family in ("PaperError", "DeedError", "TextError"):
            self.assertEqual(getattr(errors, family).__bases__, (errors.ShelfError,))
        self.assertEqual(errors.ShelfError.__bases__, (ValueError,))

    def test_attributes_are_stored_as_given(self):
        given = ([1, [True]], {"a": []}, None, "x", object())
        for name, (_, attributes) in FAMILIES.items():
            for value in given:
                error = getattr(errors, name)(*[value for _ in attributes])
                self.assertEqual(tuple(vars(error)), attributes)
                for attribute in attributes:
                    self.assertIs(getattr(error, attribute), value)

    def test_attributes_by_name(self):
        for name, (_, attributes) in FAMILIES.items():
            error = getattr(errors, name)(**{attribute: k for k, attribute in enumerate(attributes)})
            self.assertEqual([getattr(error, attribute) for attribute in attributes], list(range(len(attributes))))

    def test_exactly_these_attributes(self):
        for name, (_, attributes) in FAMILIES.items():
            for many in (len(attributes) - 1, len(attributes) + 1):
                with self.assertRaises(TypeError):
                    getattr(errors, name)(*range(many))

    def test_attributes_are_not_looked_at(self):
        class Shy:
            def __getattribute__(self, name):
                raise AssertionError("looked at")

            def __repr__(self):
                raise AssertionError("shown")

            def __eq__(self, other):
                raise AssertionError("compared")

        for name, (_, attributes) in FAMILIES.items():
            getattr(errors, name)(*[Shy() for _ in attributes])
