"""Module passplaces.errors: the classes, their parameters and fields."""

import inspect

from passplaces import errors
from tests.helpers import Case, many_parts, other_kinds

MISSING = inspect.Parameter.empty

# Each class with its parameters and their default values.
CLASSES = {
    "InvalidWay": [("part", MISSING)],
    "InvalidWalker": [("value", MISSING)],
    "InvalidPlaces": [("value", None)],
    "InvalidPlan": [("part", MISSING), ("pair", None)],
    "InvalidChain": [("index", None)],
    "InvalidOrder": [("index", None)],
    "InvalidStep": [("reason", MISSING)],
    "NoPlan": [("chain", MISSING)],
    "OtherWay": [("value", MISSING)],
    "NothingToUndo": [],
    "LimitExceeded": [("limit", MISSING)],
    "InvalidNumber": [("value", MISSING)],
    "InvalidCosts": [("pair", None)],
    "InvalidAnswer": [("part", MISSING)],
    "ParseError": [("line", MISSING), ("word", MISSING)],
}


class ErrorsTest(Case):
    def test_base_class(self):
        self.assertEqual(errors.PassplacesError.__bases__, (ValueError,))

    def test_all_are_direct_subclasses(self):
        for name in CLASSES:
            self.assertEqual(getattr(errors, name).__bases__, (errors.PassplacesError,), name)

    def test_there_are_no_others(self):
        own = {name for name, value in vars(errors).items() if inspect.isclass(value)}
        self.assertEqual(own, set(CLASSES) | {"PassplacesError"})

    def test_parameters(self):
        for name, expected in CLASSES.items():
            parameters = inspect.signature(getattr(errors, name)).parameters.values()
            self.assertEqual([(one.name, one.default) for one in parameters], expected, name)

    def test_fields_are_the_objects_that_were_passed(self):
        for name, expected in CLASSES.items():
            for value in other_kinds():
                names = [field for field, _ in expected]
                by_position = getattr(errors, name)(*[value for _ in names])
                by_name = getattr(errors, name)(**{field: value for field in names})
                for field in names:
                    self.assertTrue(getattr(by_position, field) is value, (name, field))
                    self.assertTrue(getattr(by_name, field) is value, (name, field))

    def test_two_fields_are_not_exchanged(self):
        error = errors.ParseError(3, 4)
        self.assertEqual((error.line, error.word), (3, 4))
        error = errors.InvalidPlan("place", (0, 1))
        self.assertEqual((error.part, error.pair), ("place", (0, 1)))

    def test_default_values(self):
        for name, expected in CLASSES.items():
            needed = [0 for _, default in expected if default is MISSING]
            error = getattr(errors, name)(*needed)
            for field, default in expected:
                if default is not MISSING:
                    self.assertIsNone(getattr(error, field), (name, field))

    def test_wrong_numbers_of_arguments(self):
        for name, expected in CLASSES.items():
            with self.assertRaises(TypeError):
                getattr(errors, name)(*[0 for _ in expected], 0)
            if any(default is MISSING for _, default in expected):
                with self.assertRaises(TypeError):
                    getattr(errors, name)()

    def test_texts_are_quick(self):
        value = many_parts()
        for name, expected in CLASSES.items():
            error = getattr(errors, name)(*[value for _ in expected])
            self.assertIsInstance(str(error), str)
            self.assertIsInstance(repr(error), str)

    def test_can_be_caught_as_value_error(self):
        for name, expected in CLASSES.items():
            with self.assertRaises(ValueError):
                raise getattr(errors, name)(*[0 for _ in expected])
