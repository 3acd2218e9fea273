"""nestweigh/errors.py."""

import unittest

from nestweigh import errors
from tests.support import Case

ARGUMENTS = {
    "BadName": ["name"],
    "BadWeight": ["weight"],
    "BadNumber": ["number"],
    "BadCount": ["what", "many"],
    "Twice": ["name"],
    "Unknown": ["name"],
    "NoHolder": ["name"],
    "Loop": ["name"],
    "Short": ["number"],
    "BadText": ["line", "fault"],
    "OtherYard": [],
    "Same": ["name"],
    "Inside": ["inner", "outer"],
    "Unlike": ["first", "second", "first_weight", "second_weight"],
    "Nailed": ["name"],
    "Sealed": ["name"],
    "Idle": ["name"],
    "Broken": ["at", "reason"],
    "NotComing": ["bar"],
    "Unbalanced": ["name"],
    "TooMany": ["many", "limit"],
    "BadWish": ["at"],
    "Clash": ["name"],
    "OtherDoors": [],
    "NoStory": [],
    "BadOrder": ["line", "fault"],
    "OrderRefused": ["line", "reason", "deeds"],
    "OutOfSteps": ["line", "deeds"],
    "NotEmpty": ["name"],
    "NoChange": ["name"],
    "NothingDone": [],
    "BadClaim": ["claim"],
}
REFUSALS = ["Same", "Inside", "Unlike", "Nailed", "Sealed", "Idle"]


class Errors(Case):
    def test_there_are_32_errors_besides_the_two_bases(self):
        self.assertEqual(len(ARGUMENTS), 32)
        for name in ARGUMENTS:
            self.assertTrue(hasattr(errors, name), name)

    def test_each_stands_directly_under_its_base(self):
        self.assertEqual(errors.NestError.__bases__, (ValueError,))
        self.assertEqual(errors.Refusal.__bases__, (errors.NestError,))
        for name in ARGUMENTS:
            base = errors.Refusal if name in REFUSALS else errors.NestError
            self.assertEqual(getattr(errors, name).__bases__, (base,), name)

    def test_each_is_defined_in_the_file_of_errors(self):
        for name in list(ARGUMENTS) + ["NestError", "Refusal"]:
            self.assertEqual(getattr(errors, name).__module__, "nestweigh.errors", name)

    def test_arguments_are_kept_by_position_without_a_copy(self):
        for name, words in ARGUMENTS.items():
            values = [[("a", "b")] for _ in words]
            error = getattr(errors, name)(*values)
            for word, value in zip(words, values):
                self.assertIs(getattr(error, word), value, (name, word))

    def test_each_is_caught_as_the_base_and_as_a_value_error(self):
        for name, words in ARGUMENTS.items():
            for base in (errors.NestError, ValueError):
                with self.assertRaises(base):
                    raise getattr(errors, name)(*["x" for _ in words])

    def test_refusals_are_caught_together_and_no_other_error_with_them(self):
        for name, words in ARGUMENTS.items():
            error = getattr(errors, name)(*["x" for _ in words])
            self.assertIs(isinstance(error, errors.Refusal), name in REFUSALS, name)

    def test_great_numbers_are_kept(self):
        great = 10**3999
        self.assertIs(errors.BadWeight(great).weight, great)
        self.assertIs(errors.BadNumber(-great).number == -great, True)


if __name__ == "__main__":
    unittest.main()
