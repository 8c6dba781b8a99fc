"""Point 2 and the interface: the classes of refusals."""

import unittest

from halfseams import errors
from halfseams.errors import Harm, NoSkin, SkinError

OF_A_TEXT = ("NoHalf", "NoRim", "Unlike", "TooMany", "NoPlain", "NoMarks", "NothingLeft", "Unfit", "NoText", "NoRow")
ALL = OF_A_TEXT + ("NoSkin", "Harm")


class TestErrors(unittest.TestCase):
    def test_skin_error_stands_straight_under_value_error(self):
        self.assertEqual(SkinError.__bases__, (ValueError,))
        self.assertIsInstance(SkinError("any refusal"), ValueError)

    def test_each_class_stands_straight_under_skin_error(self):
        for name in ALL:
            with self.subTest(name):
                self.assertEqual(getattr(errors, name).__bases__, (SkinError,))

    def test_none_stands_under_another_one(self):
        for name in ALL:
            for other in ALL:
                if name != other:
                    with self.subTest(name=name, other=other):
                        self.assertFalse(issubclass(getattr(errors, name), getattr(errors, other)))

    def test_those_made_of_a_text_are_raised_and_caught(self):
        for name in OF_A_TEXT:
            with self.subTest(name):
                made = getattr(errors, name)
                with self.assertRaises(SkinError) as caught:
                    raise made("a text")
                self.assertIs(type(caught.exception), made)
                self.assertIsInstance(caught.exception, ValueError)
                self.assertEqual(str(caught.exception), "a text")

    def test_no_skin_has_its_half(self):
        for half in (0, 1, 7, 399):
            with self.assertRaises(SkinError) as caught:
                raise NoSkin(half)
            self.assertIs(type(caught.exception), NoSkin)
            self.assertIs(type(caught.exception.half), int)
            self.assertEqual(caught.exception.half, half)

    def test_harm_has_its_word(self):
        for word in ("knot", "rim", "one", "last", "three", "two", "loop", "rims", "inner", "plain"):
            with self.assertRaises(SkinError) as caught:
                raise Harm(word)
            self.assertIs(type(caught.exception), Harm)
            self.assertEqual(caught.exception.word, word)


if __name__ == "__main__":
    unittest.main()
