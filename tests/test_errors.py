import unittest

from runrows import errors

PLAIN = ("NoName", "NoPart", "NoSheet", "NoInput", "NoState", "NoClaim", "TooMany")
WITH_FIELDS = {
    "NoText": ("row",),
    "NoKind": ("row", "place"),
    "NoBeat": ("row", "place", "one", "other"),
    "Ring": ("ring",),
}
ALL = PLAIN + tuple(WITH_FIELDS)


class ErrorClasses(unittest.TestCase):
    def test_there_are_eleven_under_row_error(self):
        self.assertEqual(len(set(ALL)), 11)
        self.assertTrue(issubclass(errors.RowError, ValueError))
        for name in ALL:
            self.assertTrue(issubclass(getattr(errors, name), errors.RowError), name)

    def test_none_is_under_another(self):
        for one in ALL:
            for other in ALL:
                if one != other:
                    self.assertFalse(issubclass(getattr(errors, one), getattr(errors, other)), (one, other))

    def test_each_is_raised_and_taken_by_its_name(self):
        for name in PLAIN:
            with self.assertRaises(getattr(errors, name)):
                raise getattr(errors, name)("words")

    def test_fields_are_told_as_they_were_handed_in(self):
        for name, fields in WITH_FIELDS.items():
            handed = [object() for _ in fields]
            error = getattr(errors, name)(*handed)
            for field, thing in zip(fields, handed):
                self.assertIs(getattr(error, field), thing, (name, field))

    def test_fields_of_ordinary_errors(self):
        error = errors.NoBeat("go", (0, 1), ("a",), ())
        self.assertEqual((error.row, error.place, error.one, error.other), ("go", (0, 1), ("a",), ()))
        error = errors.NoKind(None, ())
        self.assertEqual((error.row, error.place), (None, ()))
        self.assertEqual(errors.Ring((("a", None), ("b", (0,)))).ring, (("a", None), ("b", (0,))))
        self.assertEqual(errors.NoText(7).row, 7)

    def test_every_error_can_be_shown(self):
        for name in PLAIN:
            self.assertIsInstance(str(getattr(errors, name)("words")), str)
        for name, fields in WITH_FIELDS.items():
            self.assertIsInstance(str(getattr(errors, name)(*fields)), str)


class Package(unittest.TestCase):
    def test_init_binds_nothing(self):
        import ast
        import pathlib
        import runrows
        tree = ast.parse(pathlib.Path(runrows.__file__).read_text())
        self.assertEqual(tree.body, [])
