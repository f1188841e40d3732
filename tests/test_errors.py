"""The error classes of the interface."""

import unittest

from asksold import errors
from asksold.errors import AskError

WITHOUT = ["BadPlan", "BadFact", "BadStore", "BadAsk", "BadPrices"]
WITH = {
    "BadLook": "at", "TooMany": "most", "NotForSale": "thread", "BadAnswers": "at", "Contradiction": "at",
    "NoBuyer": "name", "BadDeed": "at", "BadStory": "row", "BadText": "row",
}


class ErrorsTest(unittest.TestCase):
    def test_the_base_is_a_value_error(self):
        self.assertEqual(AskError.__bases__, (ValueError,))

    def test_all_are_direct_subclasses_defined_here(self):
        for name in [*WITHOUT, *WITH]:
            with self.subTest(name=name):
                kind = getattr(errors, name)
                self.assertEqual(kind.__bases__, (AskError,))
                self.assertEqual(kind.__module__, "asksold.errors")

    def test_there_are_no_others(self):
        defined = [name for name in dir(errors) if not name.startswith("__")]
        self.assertEqual(sorted(defined), sorted(["AskError", *WITHOUT, *WITH]))

    def test_attributes_are_set_by_position_and_by_name(self):
        for name, attribute in WITH.items():
            kind = getattr(errors, name)
            for value in [0, -1, 5000, "ann", None, ("absent", (0, 1)), ("present", ("inn", (1,))), [{}]]:
                with self.subTest(name=name, value=value):
                    self.assertEqual(vars(kind(value)), {attribute: value})
                    self.assertEqual(vars(kind(**{attribute: value})), {attribute: value})

    def test_attributes_are_required(self):
        for name in WITH:
            with self.subTest(name=name), self.assertRaises(TypeError):
                getattr(errors, name)()

    def test_the_others_are_made_from_a_message(self):
        for name in WITHOUT:
            with self.subTest(name=name):
                error = getattr(errors, name)("a message")
                self.assertEqual(str(error), "a message")
                self.assertEqual(vars(error), {})

    def test_all_have_a_message(self):
        for name in WITH:
            with self.subTest(name=name):
                self.assertNotEqual(str(getattr(errors, name)(0)), "")


if __name__ == "__main__":
    unittest.main()
