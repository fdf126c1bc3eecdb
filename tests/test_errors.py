"""Part 1a: from what the errors derive, and what they keep."""

import unittest

import forkcells.errors as errors

UNDER_CLAIM_ERROR = ("InvalidFrame", "InvalidTerm", "InvalidClaim", "InvalidSituation",
                     "InvalidQuestion", "InvalidFunction", "InvalidProgram", "InvalidOperation",
                     "InvalidName", "ParseError")
BUILT_IN = {"InvalidNumber": IndexError, "UnknownName": KeyError, "NothingToUndo": LookupError,
            "TooMany": OverflowError, "Refused": ArithmeticError}
KEPT = {"ParseError": "index", "InvalidNumber": "number", "UnknownName": "name",
        "NothingToUndo": "asked", "TooMany": "bound", "Refused": "reason"}


class Errors(unittest.TestCase):
    def test_claim_error_derives_from_value_error(self):
        self.assertEqual(errors.ClaimError.__bases__, (ValueError,))

    def test_ten_derive_directly_from_claim_error(self):
        for name in UNDER_CLAIM_ERROR:
            self.assertEqual(getattr(errors, name).__bases__, (errors.ClaimError,), name)

    def test_five_derive_directly_from_built_in_classes(self):
        for name, base in BUILT_IN.items():
            self.assertEqual(getattr(errors, name).__bases__, (base,), name)

    def test_six_keep_what_they_are_made_with(self):
        for name, attribute in KEPT.items():
            for value in (3, None, ("a", 1), "word", [1], {"a": 2}):
                error = getattr(errors, name)(value)
                self.assertEqual(getattr(error, attribute), value, name)
                others = set(KEPT.values()) - {attribute}
                self.assertEqual([word for word in others if hasattr(error, word)], [], name)

    def test_the_others_are_made_with_a_message(self):
        for name in ("ClaimError",) + UNDER_CLAIM_ERROR[:-1]:
            self.assertIn("some words", str(getattr(errors, name)("some words")), name)

    def test_each_is_defined_in_the_module(self):
        for name in ("ClaimError",) + UNDER_CLAIM_ERROR + tuple(BUILT_IN):
            self.assertEqual(getattr(errors, name).__module__, "forkcells.errors", name)


if __name__ == "__main__":
    unittest.main()
