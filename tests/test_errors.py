import unittest

from crossedwishes import errors
from tests.things import STRANGE

UNDER_WISH = ["NotClosed", "NotOpen", "NoDeed", "TooMany", "NoTalk", "NoSaved", "NoText", "NoLine"]
UNDER_LOOKUP = ["NoLetter", "NoLayer", "NoBack"]
FIELDS = {"NoTalk": "at", "NoText": "line", "NoLetter": "k", "NoLayer": "layer"}


class Errors(unittest.TestCase):
    def test_each_stands_under_just_what_is_told(self):
        self.assertEqual(errors.WishError.__bases__, (ValueError,))
        for name in UNDER_WISH:
            self.assertEqual(getattr(errors, name).__bases__, (errors.WishError,), name)
        for name in UNDER_LOOKUP:
            self.assertEqual(getattr(errors, name).__bases__, (LookupError,), name)
            self.assertFalse(issubclass(getattr(errors, name), ValueError), name)

    def test_none_stands_under_another(self):
        names = UNDER_WISH + UNDER_LOOKUP
        for name in names:
            for other in names:
                if name != other:
                    self.assertFalse(issubclass(getattr(errors, name), getattr(errors, other)), (name, other))

    def test_those_without_fields_are_made_with_nothing(self):
        for name in ["WishError"] + UNDER_WISH + UNDER_LOOKUP:
            if name not in FIELDS:
                made = getattr(errors, name)()
                self.assertEqual(vars(made), {}, name)

    def test_those_with_fields_are_not_made_with_nothing(self):
        for name in FIELDS:
            with self.assertRaises(TypeError):
                getattr(errors, name)()

    def test_fields_are_set_when_made(self):
        for name, field in FIELDS.items():
            for number in (0, 1, 7, 300):
                made = getattr(errors, name)(number)
                self.assertEqual(vars(made), {field: number})
        self.assertIsNone(errors.NoText(None).line)

    def test_numbers_asked_stay_whatever_their_size(self):
        for number in (-1, 0, 10 ** 99, -(10 ** 99)):
            self.assertEqual(errors.NoLetter(number).k, number)
            self.assertEqual(errors.NoLayer(number).layer, number)

    def test_what_was_asked_and_is_no_whole_number_is_none(self):
        for thing in STRANGE + ["0", (0,), [1]]:
            if isinstance(thing, bool) or not isinstance(thing, int):
                self.assertIsNone(errors.NoLetter(thing).k)
                self.assertIsNone(errors.NoLayer(thing).layer)

    def test_they_are_raised_and_caught(self):
        with self.assertRaises(ValueError) as caught:
            raise errors.NoTalk(4)
        self.assertEqual(caught.exception.at, 4)
        with self.assertRaises(LookupError) as caught:
            raise errors.NoLayer(5)
        self.assertEqual(caught.exception.layer, 5)


if __name__ == "__main__":
    unittest.main()
