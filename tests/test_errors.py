"""errors.py: classes, base classes, attributes (point 6)."""

import inspect
import unittest

from checks import CheckCase
from wirewatch import errors
from wirewatch.errors import WireError

ATTRIBUTES = {
    "BadIndex": ("index",),
    "BadWord": ("size", "number"),
    "BadWidth": ("left", "right"),
    "BadTable": ("size",),
    "BadRow": ("row",),
    "BadText": ("line", "column", "code"),
    "BadName": ("name",),
    "BadNet": ("code", "wire"),
    "BadDesign": ("code", "module", "item"),
    "BadDiagram": ("diagram",),
    "BadStep": ("rule", "wire"),
    "BadPattern": ("code", "node"),
    "BadMachine": ("code",),
    "BadMove": ("wire",),
    "UnknownWire": ("wire",),
    "UnknownName": ("name",),
    "NameTaken": ("name",),
    "Mismatch": ("what",),
    "TooLarge": ("what", "most"),
    "NotFailing": (),
    "NothingLeft": ("what",),
}


class ErrorsTest(CheckCase):
    def test_all_classes_and_no_others(self):
        found = {name for name, value in vars(errors).items() if inspect.isclass(value)}
        self.assertEqual(found, set(ATTRIBUTES) | {"WireError"})

    def test_base_classes(self):
        self.assertEqual(WireError.__bases__, (ValueError,))
        for name in ATTRIBUTES:
            with self.subTest(name):
                self.assertEqual(getattr(errors, name).__bases__, (WireError,))
                self.assertEqual(getattr(errors, name).__module__, "wirewatch.errors")

    def test_attributes_by_position(self):
        for name, names in ATTRIBUTES.items():
            with self.subTest(name):
                values = [f"value {at}" for at in range(len(names))]
                error = getattr(errors, name)(*values)
                self.assertEqual([getattr(error, each) for each in names], values)
                self.assertEqual(vars(error), dict(zip(names, values)))

    def test_a_wrong_number_of_attributes(self):
        for name, names in ATTRIBUTES.items():
            if names:
                with self.subTest(name), self.assertRaises(TypeError):
                    getattr(errors, name)(*names, "more")
                with self.subTest(name), self.assertRaises(TypeError):
                    getattr(errors, name)(*names[1:])

    def test_attributes_are_the_values_themselves(self):
        row = (0, 1, 7)
        self.assertIs(errors.BadRow(row).row, row)
        self.same(vars(errors.TooLarge("row", 8)), {"what": "row", "most": 8})
        self.same(vars(errors.BadText(2, 13, "missing")),
                  {"line": 2, "column": 13, "code": "missing"})


if __name__ == "__main__":
    unittest.main()
