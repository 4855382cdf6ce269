"""The section tellsome/errors.py of the interface."""

import unittest

from tellsome import errors

DIRECT = (
    "BadClaim", "BadScene", "BadName", "BadSet", "BadChain", "BadWorlds", "BadGroup", "SaidBefore", "NothingSaid",
    "BadText",
)


class Errors(unittest.TestCase):
    def test_base_is_a_value_error(self):
        self.assertEqual(errors.TellError.__bases__, (ValueError,))

    def test_all_others_are_direct_subclasses(self):
        for name in DIRECT:
            with self.subTest(name=name):
                self.assertEqual(getattr(errors, name).__bases__, (errors.TellError,))

    def test_each_is_defined_in_its_file(self):
        for name in ("TellError", *DIRECT):
            self.assertEqual(getattr(errors, name).__module__, "tellsome.errors")
            self.assertEqual(getattr(errors, name).__name__, name)

    def test_there_are_no_further_ones(self):
        found = [name for name in vars(errors) if isinstance(vars(errors)[name], type)]
        self.assertEqual(sorted(found), sorted(("TellError", *DIRECT)))

    def test_attributes_are_set_on_each_object(self):
        self.assertIsNone(errors.BadScene(None).part)
        self.assertEqual(errors.BadScene("FACT").part, "FACT")
        self.assertEqual(errors.BadText(0).row, 0)
        self.assertEqual(errors.BadText(row=7).row, 7)
        self.assertIn("part", vars(errors.BadScene()))
        self.assertIn("row", vars(errors.BadText()))

    def test_each_can_be_raised_and_has_a_message(self):
        for name in DIRECT:
            kind = getattr(errors, name)
            with self.assertRaises(errors.TellError) as caught:
                raise kind("why")
            self.assertIn("why", str(caught.exception))


if __name__ == "__main__":
    unittest.main()
