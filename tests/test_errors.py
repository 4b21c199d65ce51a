"""[76]: the errors, their families and their fields."""

import unittest

from ownfears import errors
from tests.sameness import FIELDS

FAMILIES = {
    "PaperError": ["InvalidPaper"],
    "UseError": ["NotUsable", "NotPossible"],
    "BenchError": ["InvalidEvent", "NothingToUndo", "Broken"],
    "TextError": ["InvalidText", "InvalidRow"],
}


class ErrorsTest(unittest.TestCase):
    def test_families(self):
        self.assertEqual(errors.FearError.__bases__, (ValueError,))
        for family, members in FAMILIES.items():
            self.assertEqual(getattr(errors, family).__bases__, (errors.FearError,))
            for member in members:
                self.assertEqual(getattr(errors, member).__bases__, (getattr(errors, family),))

    def test_all_are_defined_here(self):
        names = ["FearError", *FAMILIES, *[member for some in FAMILIES.values() for member in some]]
        for name in names:
            self.assertEqual(getattr(errors, name).__module__, "ownfears.errors")
        self.assertEqual({kind.__name__ for kind in FIELDS}, set(names) - {"FearError", *FAMILIES})

    def test_fields_by_position_and_by_name(self):
        values = [[1, {"k": ()}], None]
        for kind, fields in FIELDS.items():
            given = values[:len(fields)]
            placed = kind(*given)
            named = kind(**dict(zip(fields, given)))
            turned = kind(**dict(reversed(list(zip(fields, given)))))
            for error in (placed, named, turned):
                self.assertEqual(vars(error), dict(zip(fields, given)))
                for field, value in zip(fields, given):
                    self.assertIs(getattr(error, field), value)

    def test_no_more_and_no_fewer_fields(self):
        for kind, fields in FIELDS.items():
            for many in range(4):
                if many != len(fields):
                    with self.assertRaises(TypeError):
                        kind(*[0] * many)
            with self.assertRaises(TypeError):
                kind(**{field: 0 for field in fields}, more=0)

    def test_they_can_be_raised_and_caught_by_each_of_their_classes(self):
        for kind, fields in FIELDS.items():
            for above in kind.__mro__[:-2]:
                with self.assertRaises(above):
                    raise kind(*[0] * len(fields))


if __name__ == "__main__":
    unittest.main()
