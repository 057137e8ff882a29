"""The nine refusals."""

import unittest

from beliefsets import errors
from samples import Case

FIELDS = {
    "NoFraction": (), "NoBelief": ("word", "set"), "AllClash": (), "NoElder": ("word", "set"),
    "NoPaper": ("word", "row"), "NoText": ("row", "word"), "TooMany": (), "NoPiece": ("number",), "NoLine": ("line",),
}


class Untouchable:
    """Fails whoever looks at it."""

    def fail(self, *told):
        raise AssertionError("a field was looked at")

    __eq__ = __repr__ = __str__ = __len__ = __bool__ = __iter__ = __hash__ = fail


class Refusals(Case):
    def test_fields_are_the_very_things(self):
        for name, fields in FIELDS.items():
            for thing in (Untouchable, list, lambda: None, lambda: 10 ** 5000, lambda: ((1, [2]), "x"), lambda: True):
                told = [thing() for field in fields]
                made = getattr(errors, name)(*told)
                for field, one in zip(fields, told):
                    self.assertIs(getattr(made, field), one)

    def test_fields_stand_in_their_order(self):
        for name, fields in FIELDS.items():
            made = getattr(errors, name)(*fields)
            self.assertEqual([getattr(made, field) for field in fields], list(fields))

    def test_they_take_just_their_fields(self):
        for name, fields in FIELDS.items():
            if fields:
                with self.assertRaises(TypeError):
                    getattr(errors, name)(*fields[1:])
                with self.assertRaises(TypeError):
                    getattr(errors, name)(*fields, 1)

    def test_all_are_under_the_base(self):
        self.assertTrue(issubclass(errors.BeliefError, ValueError))
        for name in FIELDS:
            kind = getattr(errors, name)
            self.assertTrue(issubclass(kind, errors.BeliefError))
            self.assertIsNot(kind, errors.BeliefError)

    def test_none_is_under_another_one(self):
        for name in FIELDS:
            for other in FIELDS:
                if name != other:
                    self.assertFalse(issubclass(getattr(errors, name), getattr(errors, other)))

    def test_they_are_raised_and_caught(self):
        for name, fields in FIELDS.items():
            with self.assertRaises(errors.BeliefError) as caught:
                raise getattr(errors, name)(*fields)
            self.assertIs(type(caught.exception), getattr(errors, name))


if __name__ == "__main__":
    unittest.main()
