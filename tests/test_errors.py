"""The classes of heardagain.errors."""

import inspect
import unittest

from heardagain import errors
from tests.helper import ODD_VALUES, same

TOLD = {
    "BadScore": "error", "BadPoints": "error", "BadText": None, "NoKind": "given", "NoVoice": "given",
    "NoName": "given", "NoNote": "given", "Taken": "given", "Unfit": None, "TooMany": "limit", "BadPattern": "error",
    "BadBatch": None, "Rejected": "place", "TooManyEdits": None, "NothingToUndo": None, "NothingToRedo": None,
    "NoVersion": "given",
}


def made(name, value):
    """Return an error of the class of this name, each way in which it is made."""
    shape = getattr(errors, name)
    if TOLD[name] is None:
        return [shape()]
    return [shape(value), shape(**{TOLD[name]: value})]


class ErrorsTest(unittest.TestCase):
    def test_all_classes_are_there_and_no_further_ones(self):
        found = [name for name, shape in vars(errors).items() if inspect.isclass(shape)]
        self.assertEqual(sorted(found), sorted(list(TOLD) + ["ScoreError"]))

    def test_bases(self):
        self.assertEqual(errors.ScoreError.__bases__, (ValueError,))
        for name in TOLD:
            self.assertEqual(getattr(errors, name).__bases__, (errors.ScoreError,), name)

    def test_defined_here(self):
        for name in list(TOLD) + ["ScoreError"]:
            self.assertEqual(getattr(errors, name).__module__, "heardagain.errors")

    def test_attributes_are_what_was_passed(self):
        for name, attribute in TOLD.items():
            for value in ODD_VALUES + (("note", 5), "form", 2000, (0, 60, 0, 2)):
                for error in made(name, value):
                    if attribute is None:
                        self.assertEqual(vars(error), {})
                    else:
                        self.assertEqual(list(vars(error)), [attribute])
                        self.assertIs(getattr(error, attribute), value)
                        self.assertTrue(same(getattr(error, attribute), value))

    def test_caught_as_itself_and_as_those_above(self):
        for name in TOLD:
            for error in made(name, 3):
                for above in (getattr(errors, name), errors.ScoreError, ValueError):
                    with self.assertRaises(above) as caught:
                        raise error
                    self.assertIs(caught.exception, error)

    def test_not_caught_as_another_one(self):
        for name in TOLD:
            others = tuple([getattr(errors, other) for other in TOLD if other != name])
            for error in made(name, 3):
                self.assertNotIsInstance(error, others)
                try:
                    raise error
                except others:
                    self.fail(name)
                except errors.ScoreError as caught:
                    self.assertIs(caught, error)

    def test_told_in_words(self):
        for name in TOLD:
            for error in made(name, ("x", 1)):
                self.assertIsInstance(str(error), str)
                self.assertIsInstance(repr(error), str)


if __name__ == "__main__":
    unittest.main()
