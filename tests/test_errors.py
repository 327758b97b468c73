"""Tests of keepsapart.errors: point [7] and the interface."""

import unittest

from keepsapart import errors

ATTRIBUTES = {
    "BadPlace": ("place",),
    "BadLot": ("lot",),
    "Repeated": ("item",),
    "BadSaying": ("saying",),
    "Unknown": ("place",),
    "Shared": ("place",),
    "OtherPlaces": ("first", "second"),
    "TooMany": ("bound", "found"),
    "TooFew": ("bound", "found"),
    "BadRule": ("rule",),
    "BadUse": ("use",),
    "BadNumber": ("number",),
    "NotKept": ("saying",),
    "Disagree": ("pair",),
    "BadTable": ("number",),
    "BadCell": ("cell",),
    "NotTold": ("saying",),
    "InUse": ("saying",),
    "BadKind": ("word",),
    "BadText": ("line",),
    "NoChange": (),
}
VALUES = ("Not A Place", -3, (("b", "a"), (), (1, ("x",))), "", 0, ())


class ErrorsTest(unittest.TestCase):

    def classes(self):
        return [(getattr(errors, name), names) for name, names in ATTRIBUTES.items()]

    def test_the_classes_are_all_there_are(self):
        found = [name for name, value in vars(errors).items() if isinstance(value, type)]
        self.assertEqual(sorted(found), sorted(list(ATTRIBUTES) + ["KeepError"]))

    def test_each_is_a_direct_subclass_of_the_base_class(self):
        self.assertEqual(errors.KeepError.__bases__, (ValueError,))
        for error, _ in self.classes():
            self.assertEqual(error.__bases__, (errors.KeepError,))

    def test_attributes_by_position_are_what_was_passed(self):
        for error, names in self.classes():
            for shift in range(len(VALUES)):
                values = (VALUES[shift:] + VALUES[:shift])[:len(names)]
                made = error(*values)
                self.assertEqual(vars(made), dict(zip(names, values)))
                for name, value in zip(names, values):
                    self.assertIs(getattr(made, name), value)

    def test_attributes_by_name_are_what_was_passed(self):
        for error, names in self.classes():
            for shift in range(len(VALUES)):
                values = dict(zip(names, VALUES[shift:] + VALUES[:shift]))
                made = error(**values)
                self.assertEqual(vars(made), values)
                self.assertEqual(vars(error(**dict(reversed(values.items())))), values)

    def test_each_takes_as_many_values_as_it_has_attributes(self):
        for error, names in self.classes():
            if names:
                self.assertRaises(TypeError, error)
                self.assertRaises(TypeError, error, *VALUES[:len(names) + 1])

    def test_each_can_be_raised_and_caught_by_the_base_class(self):
        for error, names in self.classes():
            with self.assertRaises(errors.KeepError) as caught:
                raise error(*VALUES[:len(names)])
            self.assertIs(type(caught.exception), error)


if __name__ == "__main__":
    unittest.main()
