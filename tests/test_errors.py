import unittest

from anycompany import errors
from anycompany.errors import AnycompanyError
from tests.support import GREAT_NUMBERS

PLAIN = ("ZeroDenominator", "NoStates", "WrongLength", "NoKnots", "SteepCurve", "ImpossibleRecord",
         "InvalidDiscount", "ImpossibleOutcome", "NothingToUndo")
WITH_ATTRIBUTE = {
    "BadTarget": "state", "NegativeProbability": "state", "BadTotal": "state", "BadState": "state",
    "BadKnot": "position", "BadDeed": "position", "BadPlan": "path", "UnknownGame": "number",
    "BadLine": "line", "BadBook": "line",
}
ALL = PLAIN + tuple(WITH_ATTRIBUTE)


class BaseClasses(unittest.TestCase):
    def test_base_class_of_all_is_a_value_error(self):
        self.assertEqual(AnycompanyError.__bases__, (ValueError,))

    def test_each_class_stands_directly_under_the_base_class(self):
        for name in ALL:
            with self.subTest(name):
                self.assertEqual(getattr(errors, name).__bases__, (AnycompanyError,))

    def test_none_stands_under_another_one(self):
        classes = [getattr(errors, name) for name in ALL]
        self.assertEqual(len(set(classes)), len(ALL))
        for one in classes:
            for other in classes:
                with self.subTest(one=one, other=other):
                    self.assertEqual(issubclass(one, other), one is other)

    def test_no_further_class_is_defined(self):
        found = [name for name, value in vars(errors).items() if isinstance(value, type)]
        self.assertEqual(sorted(found), sorted(ALL + ("AnycompanyError",)))


class Objects(unittest.TestCase):
    def test_attribute_is_set_when_the_object_is_created(self):
        for name, attribute in WITH_ATTRIBUTE.items():
            for value in (0, -1, 10 ** 40, (), (0, 2)) + GREAT_NUMBERS + (GREAT_NUMBERS,):
                with self.subTest(name):
                    self.assertEqual(vars(getattr(errors, name)(value)), {attribute: value})

    def test_attribute_belongs_to_one_object(self):
        first = errors.BadTarget(1)
        second = errors.BadTarget(2)
        self.assertEqual((first.state, second.state), (1, 2))

    def test_errors_can_be_raised_and_caught_as_value_errors(self):
        for name in PLAIN:
            with self.subTest(name), self.assertRaises(ValueError):
                raise getattr(errors, name)("some words")
        for name in WITH_ATTRIBUTE:
            with self.subTest(name), self.assertRaises(ValueError):
                raise getattr(errors, name)(3)

    def test_errors_can_be_shown(self):
        for name in WITH_ATTRIBUTE:
            for value in ((1, 2), 37, -37) + GREAT_NUMBERS + (GREAT_NUMBERS,):
                with self.subTest(name):
                    self.assertNotEqual(str(getattr(errors, name)(value)), "")

    def test_errors_tell_a_number_that_is_not_great(self):
        for name in WITH_ATTRIBUTE:
            for value in (0, 37, -37, 10 ** 40):
                with self.subTest(name, value=value):
                    self.assertIn(str(value), str(getattr(errors, name)(value)))


if __name__ == "__main__":
    unittest.main()
