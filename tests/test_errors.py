"""Point [9]: the refusals."""

import unittest

from askfolds import errors

FIELDS = {
    "NoPaper": ("word", "number"),
    "NoFilling": ("word",),
    "NoName": ("name",),
    "NoAnswer": ("word",),
    "NoChange": ("word",),
    "NoOrder": ("word",),
    "NoPiece": ("word",),
    "NoStep": (),
    "NoText": ("row", "word"),
    "NoRow": ("row",),
}


class Errors(unittest.TestCase):
    def test_the_base_is_a_value_error(self):
        self.assertEqual(errors.FoldError.__bases__, (ValueError,))

    def test_each_is_straight_under_the_base(self):
        for word in FIELDS:
            self.assertEqual(getattr(errors, word).__bases__, (errors.FoldError,), word)

    def test_each_keeps_the_very_things(self):
        things = ([1, [True]], None, True, "", (), ([],), -1)
        for word, fields in FIELDS.items():
            for first in things:
                for second in things:
                    handed = (first, second)[:len(fields)]
                    by_place = getattr(errors, word)(*handed)
                    by_name = getattr(errors, word)(**dict(zip(fields, handed)))
                    for field, thing in zip(fields, handed):
                        self.assertIs(getattr(by_place, field), thing)
                        self.assertIs(getattr(by_name, field), thing)

    def test_each_is_made_of_just_its_fields(self):
        for word, fields in FIELDS.items():
            made = getattr(errors, word)
            self.assertEqual(set(vars(made(*fields))), set(fields))
            with self.assertRaises(TypeError):
                made(*fields, "more")
            with self.assertRaises(TypeError):
                made(*fields, other="more")
            if fields:
                with self.assertRaises(TypeError):
                    made(*fields[1:])

    def test_each_is_caught_by_its_own_name_and_no_other(self):
        for word, fields in FIELDS.items():
            made = getattr(errors, word)(*fields)
            for kind in (getattr(errors, word), errors.FoldError, ValueError):
                with self.assertRaises(kind):
                    raise made
            for other in FIELDS:
                self.assertEqual(isinstance(made, getattr(errors, other)), other == word)


if __name__ == "__main__":
    unittest.main()
