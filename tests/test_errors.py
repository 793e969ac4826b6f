from unittest import TestCase

from bothandall import errors
from bothandall.errors import HouseError
from tests.anything import any_values

PARAMETERS = {
    "BadNumber": "thing", "BadTable": "thing", "BadHouse": "thing", "BadLot": "thing", "BadFacts": "thing",
    "BadRules": "thing", "BadThing": "thing", "BadTold": "thing", "BadMap": "thing", "OtherSize": "thing",
    "BadRow": "thing", "BadMeeting": "thing", "BadPlan": "thing", "BadLine": "thing", "BadWay": "thing",
    "BadTies": "thing", "HasRing": "certificate", "TooMany": "most", "BadText": "at", "BadPromise": "thing",
    "Broken": "promise",
}
PLAIN = ("NothingToUndo", "NothingToRedo")


class ErrorsTest(TestCase):
    def test_base_classes(self):
        self.assertEqual(HouseError.__bases__, (Exception,))
        for name in [*PARAMETERS, *PLAIN]:
            self.assertEqual(getattr(errors, name).__bases__, (HouseError,), name)

    def test_defined_here(self):
        for name in ["HouseError", *PARAMETERS, *PLAIN]:
            self.assertEqual(getattr(errors, name).__module__, "bothandall.errors")
            self.assertEqual(getattr(errors, name).__name__, name)

    def test_parameters_are_attributes(self):
        for name, parameter in PARAMETERS.items():
            for value in any_values():
                for error in (getattr(errors, name)(value), getattr(errors, name)(**{parameter: value})):
                    self.assertIs(getattr(error, parameter), value)
                    self.assertEqual(list(vars(error)), [parameter])

    def test_attributes_are_of_the_object(self):
        for name, parameter in PARAMETERS.items():
            one, other = getattr(errors, name)(1), getattr(errors, name)(2)
            self.assertEqual([getattr(one, parameter), getattr(other, parameter)], [1, 2])

    def test_just_one_parameter(self):
        for name in PARAMETERS:
            for args, named in (((), {}), ((1, 2), {}), ((), {"other": 1})):
                with self.assertRaises(TypeError):
                    getattr(errors, name)(*args, **named)

    def test_without_parameters(self):
        for name in PLAIN:
            self.assertEqual(vars(getattr(errors, name)()), {})
        self.assertIsInstance(HouseError(), Exception)

    def test_raised_and_caught(self):
        for name, parameter in PARAMETERS.items():
            with self.assertRaises(HouseError) as caught:
                raise getattr(errors, name)((name,))
            self.assertEqual(getattr(caught.exception, parameter), (name,))
            self.assertIsInstance(str(caught.exception), str)
        for name in PLAIN:
            with self.assertRaises(getattr(errors, name)):
                raise getattr(errors, name)()
