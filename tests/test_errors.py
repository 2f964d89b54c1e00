"""Tests of seriesforms.errors: attributes, and which class is derived from which."""

import unittest

from seriesforms import errors

GIVEN = ("given",)

# Each class that has attributes or none: its base, and its attributes in their order.
CLASSES = {
    "InvalidNumber": ("GivenError", GIVEN),
    "InvalidText": ("GivenError", GIVEN),
    "InvalidCount": ("GivenError", GIVEN),
    "InvalidName": ("GivenError", GIVEN),
    "InvalidTruth": ("GivenError", GIVEN),
    "InvalidEntries": ("GivenError", GIVEN),
    "InvalidData": ("GivenError", GIVEN),
    "InvalidLength": ("GivenError", GIVEN),
    "InvalidPath": ("GivenError", GIVEN),
    "InvalidClaim": ("GivenError", GIVEN),
    "InvalidIndex": ("GivenError", GIVEN),
    "NotAFormula": ("GivenError", GIVEN),
    "NotASeries": ("GivenError", GIVEN),
    "NotARunner": ("GivenError", GIVEN),
    "TextError": ("GivenError", ("place",)),
    "UnknownName": ("NameProblem", GIVEN),
    "Taken": ("NameProblem", GIVEN),
    "InUse": ("NameProblem", ("user",)),
    "Circular": ("NameProblem", GIVEN),
    "Clash": ("NameProblem", GIVEN),
    "NoSeries": ("NameProblem", GIVEN),
    "NoEntry": ("NameProblem", GIVEN),
    "NotMade": ("NameProblem", GIVEN),
    "DividedByZero": ("AnswerError", ()),
    "TooLarge": ("AnswerError", ("limit",)),
    "TooHeavy": ("AnswerError", ("limit",)),
    "NotUndoable": ("AnswerError", ("reason", "place")),
    "NoWay": ("AnswerError", ("place",)),
    "Ended": ("AnswerError", ()),
    "NothingToUndo": ("AnswerError", ()),
    "Broken": ("AnswerError", ("index", "shown")),
}

ROOTS = {"GivenError": ValueError, "NameProblem": LookupError, "AnswerError": ArithmeticError}


class Odd:
    """A value that is equal to nothing, not even to itself, and neither true nor false."""

    def __eq__(self, other):
        return False

    def __bool__(self):
        raise RuntimeError("asked for its truth")


VALUES = [None, True, False, 0, -7, 10**39, "", "x", (), (1, "a"), [1, [2]], {"a": 1}, {3}, Odd(), Odd, ValueError("v")]


def defined_classes():
    return {name: value for name, value in vars(errors).items() if isinstance(value, type)}


class AttributesTest(unittest.TestCase):
    def check(self, error, attributes, values):
        for attribute, value in zip(attributes, values):
            self.assertIs(getattr(error, attribute), value)
        self.assertEqual(len(vars(error)), len(attributes))

    def rows(self):
        """Each class with its attributes and rows of as many unlike values."""
        for name, (_, attributes) in CLASSES.items():
            for start in range(len(VALUES)):
                values = [VALUES[(start + step) % len(VALUES)] for step in range(len(attributes))]
                yield name, attributes, values

    def test_by_position(self):
        for name, attributes, values in self.rows():
            with self.subTest(name=name, kinds=[type(value) for value in values]):
                self.check(getattr(errors, name)(*values), attributes, values)

    def test_by_name(self):
        for name, attributes, values in self.rows():
            with self.subTest(name=name, kinds=[type(value) for value in values]):
                given = dict(zip(attributes, values))
                backward = {key: given[key] for key in reversed(attributes)}
                self.check(getattr(errors, name)(**backward), attributes, values)

    def test_first_by_position_and_the_other_by_name(self):
        self.check(errors.NotUndoable("gap", place=3), ("reason", "place"), ("gap", 3))
        self.check(errors.Broken(0, shown=VALUES), ("index", "shown"), (0, VALUES))

    def test_no_other_attributes(self):
        for name, (_, attributes) in CLASSES.items():
            error = getattr(errors, name)(*[5 for _ in attributes])
            for other in ("given", "place", "user", "limit", "reason", "index", "shown"):
                with self.subTest(name=name, other=other):
                    self.assertEqual(hasattr(error, other), other in attributes)

    def test_a_wrong_number_of_values(self):
        for name, (_, attributes) in CLASSES.items():
            if attributes:
                with self.subTest(name=name):
                    with self.assertRaises(TypeError):
                        getattr(errors, name)(*[5 for _ in attributes[1:]])
                    with self.assertRaises(TypeError):
                        getattr(errors, name)(*[5 for _ in attributes], 5)

    def test_raised_and_caught(self):
        for name, (base, attributes) in CLASSES.items():
            for caught in (getattr(errors, name), getattr(errors, base), ROOTS[base]):
                error = getattr(errors, name)(*[name for _ in attributes])
                with self.subTest(name=name, caught=caught.__name__):
                    with self.assertRaises(caught) as context:
                        raise error
                    self.check(context.exception, attributes, [name for _ in attributes])


class FamiliesTest(unittest.TestCase):
    def test_which_classes_there_are(self):
        self.assertEqual(sorted(defined_classes()), sorted([*CLASSES, *ROOTS]))

    def test_each_is_defined_in_this_file(self):
        for name, found in defined_classes().items():
            with self.subTest(name=name):
                self.assertEqual((found.__module__, found.__name__), ("seriesforms.errors", name))

    def test_the_three_classes(self):
        for name, root in ROOTS.items():
            with self.subTest(name=name):
                self.assertEqual(getattr(errors, name).__bases__, (root,))

    def test_derived_directly(self):
        for name, (base, _) in CLASSES.items():
            with self.subTest(name=name):
                self.assertEqual(getattr(errors, name).__bases__, (getattr(errors, base),))

    def test_of_no_other_class(self):
        for name, (base, attributes) in CLASSES.items():
            error = getattr(errors, name)(*[1 for _ in attributes])
            for other, found in defined_classes().items():
                with self.subTest(name=name, other=other):
                    self.assertEqual(isinstance(error, found), other in (name, base))
            for root in ROOTS.values():
                with self.subTest(name=name, root=root.__name__):
                    self.assertEqual(isinstance(error, root), root is ROOTS[base])


if __name__ == "__main__":
    unittest.main()
