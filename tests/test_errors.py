"""Promise [3]: the errors, their places and their attributes."""

import unittest

from ibidem import errors
from ibidem.errors import CiteError

FIELDS = {
    "InvalidBook": ("value",),
    "InvalidList": ("value",),
    "InvalidStyle": ("value",),
    "InvalidLetters": ("value",),
    "InvalidText": ("text", "at"),
    "InvalidNumber": ("value",),
    "InvalidMarks": ("value",),
    "InvalidParts": ("value",),
    "InvalidClaim": ("value",),
    "Refused": ("claim",),
    "InvalidLine": ("line", "at"),
    "NothingToUndo": ("word",),
    "Undefined": ("what",),
}

GIVEN = (
    None, True, False, 0, -1, 10 ** 5000, "", "word", "\n{}", (), [], ("a", [1, (None,)]),
)


def raised(error):
    """What is caught of the error by the name of CiteError."""
    try:
        raise error
    except CiteError as caught:
        return caught


class TestErrors(unittest.TestCase):

    def test_all_thirteen_and_no_others_are_there(self):
        found = [
            name for name, thing in vars(errors).items()
            if isinstance(thing, type) and issubclass(thing, BaseException)
        ]
        self.assertEqual(sorted(found), sorted([*FIELDS, "CiteError"]))
        self.assertEqual(len(FIELDS), 13)

    def test_cite_error_stands_under_value_error(self):
        self.assertEqual(CiteError.__bases__, (ValueError,))
        self.assertEqual(CiteError.__module__, "ibidem.errors")

    def test_each_stands_directly_under_cite_error(self):
        for name in FIELDS:
            with self.subTest(name):
                kind = getattr(errors, name)
                self.assertEqual(kind.__bases__, (CiteError,))
                self.assertEqual(kind.__module__, "ibidem.errors")

    def test_each_is_caught_by_its_name_and_those_above(self):
        for name, fields in FIELDS.items():
            kind = getattr(errors, name)
            for above in (kind, CiteError, ValueError):
                with self.subTest(name, above=above), self.assertRaises(above):
                    raise kind(*["x"] * len(fields))

    def test_none_is_one_of_another_class(self):
        for name, fields in FIELDS.items():
            error = raised(getattr(errors, name)(*["x"] * len(fields)))
            for other in FIELDS:
                with self.subTest(name, other=other):
                    is_one = isinstance(error, getattr(errors, other))
                    self.assertIs(is_one, name == other)

    def test_each_keeps_the_very_arguments(self):
        for name, fields in FIELDS.items():
            for value in GIVEN:
                with self.subTest(name):
                    values = [value, 7][:len(fields)]
                    error = raised(getattr(errors, name)(*values))
                    self.assertEqual(list(vars(error)), list(fields))
                    for field, kept in zip(fields, values):
                        self.assertIs(getattr(error, field), kept)

    def test_arguments_may_be_passed_by_name(self):
        for name, fields in FIELDS.items():
            with self.subTest(name):
                values = {field: [field] for field in fields}
                error = raised(getattr(errors, name)(**values))
                self.assertEqual(vars(error), values)

    def test_each_can_be_shown_whatever_it_keeps(self):
        for name, fields in FIELDS.items():
            for value in GIVEN:
                with self.subTest(name):
                    error = getattr(errors, name)(*[value] * len(fields))
                    self.assertIsInstance(str(error), str)
                    self.assertIsInstance(repr(error), str)

    def test_arguments_are_neither_more_nor_less(self):
        for name, fields in FIELDS.items():
            for many in (0, 3, 3 - len(fields)):
                with self.subTest(name, many=many), self.assertRaises(TypeError):
                    getattr(errors, name)(*["x"] * many)


if __name__ == "__main__":
    unittest.main()
