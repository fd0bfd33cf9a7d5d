import builtins
import inspect
import unittest

from helpers import ANYTHING, Case
from ringlessday import errors

PARAMETERS = {
    "InvalidName": ["value"], "InvalidNumber": ["value"], "InvalidSection": ["value"], "InvalidTimes": ["value"],
    "InvalidStep": ["value"], "InvalidStanding": ["value"], "InvalidRow": ["value"], "InvalidTable": ["value"],
    "InvalidDelays": ["value"], "InvalidPeriod": ["value"], "InvalidHeights": ["value"], "InvalidDeed": ["value"],
    "InvalidTurn": ["at"], "InvalidWait": ["at"], "InvalidWish": ["at"], "InvalidJourney": ["at"],
    "InvalidText": ["line"], "DuplicateName": ["name"], "InUse": ["name"], "TakenEnd": ["end"], "LooseEnd": ["end"],
    "TooMany": ["subject", "most"], "MisplacedStep": ["train", "step"], "OwnRing": ["train", "step", "element"],
    "Refused": ["train", "element", "holder"], "Lacking": ["train", "other"], "Unready": ["train"],
    "Finished": ["train"], "Barred": ["train", "step"], "NoDay": [], "Doomed": [],
    "NeverCleared": ["train", "step", "element"], "NoPeriod": [], "TooShort": ["period"],
    "UnknownName": ["name"], "UnknownEnd": ["end"], "UnknownEntry": ["entry"], "NothingLeft": [],
}
MISSING = ["UnknownName", "UnknownEnd", "UnknownEntry"]


class ErrorsTest(Case):
    def test_there_are_just_these_classes(self):
        found = [name for name, value in vars(errors).items() if inspect.isclass(value)]
        self.assertEqual(sorted(found), sorted([*PARAMETERS, "DayError", "Missing"]))

    def test_base_classes(self):
        self.assertEqual(errors.DayError.__bases__, (ValueError,))
        self.assertEqual(errors.Missing.__bases__, (LookupError,))
        for name in PARAMETERS:
            base = errors.DayError
            if name in MISSING:
                base = errors.Missing
            if name == "NothingLeft":
                base = IndexError
            self.assertEqual(getattr(errors, name).__bases__, (base,), name)

    def test_no_other_class_is_a_subclass_of_another_one(self):
        for one in PARAMETERS:
            for other in PARAMETERS:
                self.assertEqual(issubclass(getattr(errors, one), getattr(errors, other)), one == other)
            self.assertEqual(issubclass(getattr(errors, one), errors.Missing), one in MISSING)

    def test_made_by_position_and_by_name(self):
        for name, parameters in PARAMETERS.items():
            kind = getattr(errors, name)
            values = [f"value of {parameter}" for parameter in parameters]
            named = dict(zip(parameters, values))
            for error in (kind(*values), kind(**named)):
                self.assertEqual(vars(error), {**named, "code": name})

    def test_any_values_are_kept_as_they_are(self):
        for value in ANYTHING:
            for name, parameters in PARAMETERS.items():
                error = getattr(errors, name)(*[value] * len(parameters))
                for parameter in parameters:
                    self.assertIs(getattr(error, parameter), value)

    def test_no_more_and_no_fewer_arguments(self):
        for name, parameters in PARAMETERS.items():
            kind = getattr(errors, name)
            self.assertRaises(TypeError, kind, *[1] * (len(parameters) + 1))
            if parameters:
                self.assertRaises(TypeError, kind, *[1] * (len(parameters) - 1))

    def test_they_can_be_raised_and_caught(self):
        for name, parameters in PARAMETERS.items():
            kind = getattr(errors, name)
            with self.assertRaises(kind) as caught:
                raise kind(*parameters)
            self.assertEqual(caught.exception.code, name)
            self.assertIsInstance(str(caught.exception), str)

    def test_no_class_hides_one_of_python(self):
        for name in PARAMETERS:
            self.assertFalse(hasattr(builtins, name))


if __name__ == "__main__":
    unittest.main()
