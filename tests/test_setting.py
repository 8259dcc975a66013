"""Promise [10]: books set as lines."""

import itertools
import unittest

from ibidem import setting
from ibidem.errors import InvalidBook, InvalidLetters, InvalidList, InvalidStyle
from ibidem.setting import set_entry, set_list
from ibidem.shelving import ordered
from samples import (
    BOOKS, CLEAR, CLOUDS, FOG, LATIN, NO_LETTERS, ODD, PLAIN, RAIN, SNOW, SPANISH, STORMS, TIGHT, changed, error_of,
)

FIELDS = (("names",), ("mark", "/"), ("year",), ("mark", "/"), ("title",), ("mark", "/"), ("place",), ("volume",))
TRIO = ((("Ash", "ABC"), ("Elm", "K"), ("Oak", "XY")), 1066, "A b cd", "Q", 70)

NO_STYLES = (None, (), list(PLAIN), changed(PLAIN, 0, ()), (PLAIN[0], changed(PLAIN[1], 5, True)), RAIN)
NO_BOOKS = (None, (), BOOKS, list(RAIN), changed(RAIN, 1, 3000), changed(RAIN, 4, True), PLAIN)
NO_LISTS = (None, RAIN, list(BOOKS), (RAIN, RAIN), (RAIN, FOG, None), [], PLAIN)


def by_names(given, dotted, gap, join, last, most, rest):
    """A style of all fields with this of its names."""
    return (FIELDS, (given, dotted, gap, join, last, most, rest))


class TestSetEntry(unittest.TestCase):

    def test_the_example_of_the_document(self):
        self.assertEqual(set_entry(PLAIN, RAIN), "Ash, J. & Elm, K.L. (2001) On rain")
        self.assertEqual(set_entry(style=PLAIN, book=RAIN), "Ash, J. & Elm, K.L. (2001) On rain")

    def test_ordinary_books(self):
        self.assertEqual(set_entry(PLAIN, CLOUDS), "Chall, B. (1998) Clouds")
        self.assertEqual(set_entry(PLAIN, SNOW), "Ash, J.; Elm, K.L. & Oak, Z. (1000) Snow and ice")
        self.assertEqual(set_entry(CLEAR, RAIN), "Ash, J. & Elm, K.L. (2001) On rain.")
        self.assertEqual(set_entry(CLEAR, CLOUDS), "Chall, B. (1998) Clouds: Ulm, v2")
        self.assertEqual(set_entry(CLEAR, SNOW), "Ash, J.; Elm, K.L. & Oak, Z. (1000) Snow and ice: Bern.")
        self.assertEqual(set_entry(CLEAR, FOG), "Ash, J. (2999) F, v999")
        self.assertEqual(set_entry(TIGHT, STORMS), "ChallBCloudsUlm199812")
        self.assertEqual(set_entry(TIGHT, RAIN), "AshJElmKLOn rain2001")

    def test_givens(self):
        rest = "/1066/A b cd/Q70"
        for style, names in (
            (by_names("behind", True, ", ", "; ", " & ", 3, "?"), "Ash, A.B.C.; Elm, K. & Oak, X.Y."),
            (by_names("behind", False, ", ", "; ", " & ", 3, "?"), "Ash, ABC; Elm, K & Oak, XY"),
            (by_names("ahead", True, " ", "; ", " & ", 3, "?"), "A.B.C. Ash; K. Elm & X.Y. Oak"),
            (by_names("ahead", False, "", "", "", 3, "?"), "ABCAshKElmXYOak"),
            (by_names("none", True, "-", ", ", ", ", 3, "?"), "Ash, Elm, Oak"),
            (by_names("none", False, "-", ", ", "et ", 3, "?"), "Ash, Elmet Oak"),
        ):
            self.assertEqual(set_entry(style, TRIO), names + rest)

    def test_fewer_names(self):
        duo = changed(TRIO, 0, TRIO[0][:2])
        solo = changed(TRIO, 0, TRIO[0][:1])
        for most, names in (
            (1, ("A.B.C. Ash +", "A.B.C. Ash +", "A.B.C. Ash")),
            (2, ("A.B.C. Ash; K. Elm +", "A.B.C. Ash & K. Elm", "A.B.C. Ash")),
            (3, ("A.B.C. Ash; K. Elm & X.Y. Oak", "A.B.C. Ash & K. Elm", "A.B.C. Ash")),
        ):
            style = by_names("ahead", True, " ", "; ", " & ", most, " +")
            for book, told in zip((TRIO, duo, solo), names):
                self.assertEqual(set_entry(style, book), told + "/1066/A b cd/Q70")

    def test_a_field_may_stand_anywhere(self):
        pieces = (("volume",), ("place",), ("title",), ("year",), ("names",))
        for some in itertools.permutations(pieces, 3):
            words = {"volume": "70", "place": "Q", "title": "A b cd", "year": "1066", "names": "Ash+"}
            wanted = "".join(words[piece[0]] for piece in some)
            self.assertEqual(set_entry((some, ("none", True, "", "", "", 1, "+")), TRIO), wanted)

    def test_a_line_of_nothing(self):
        self.assertEqual(set_entry(((("place",),), PLAIN[1]), RAIN), "")
        self.assertEqual(set_entry(((("place",),), PLAIN[1]), CLOUDS), "Ulm")

    def test_great_books(self):
        book = ((("A" + "z" * 1000, "Q" * 1000),), 2999, "T" + " a" * 1000, "B", 1)
        style = by_names("behind", True, "", "", "", 3, "")
        self.assertEqual(set_entry(style, book), "A" + "z" * 1000 + "Q." * 1000 + "/2999/T" + " a" * 1000 + "/B1")

    def test_errors(self):
        for style in NO_STYLES + ODD:
            for book in (RAIN, None, style):
                error = error_of(set_entry, style, book)
                self.assertIs(type(error), InvalidStyle)
                self.assertIs(error.value, style)
        for book in NO_BOOKS + ODD:
            error = error_of(set_entry, PLAIN, book)
            self.assertIs(type(error), InvalidBook)
            self.assertIs(error.value, book)


class TestSetList(unittest.TestCase):

    def test_no_books_and_one(self):
        self.assertEqual(set_list(PLAIN, (), LATIN), "")
        self.assertEqual(set_list(style=PLAIN, books=(RAIN,), letters=LATIN), "Ash, J. & Elm, K.L. (2001) On rain\n")

    def test_in_the_order_of_letters(self):
        cob = changed(CLOUDS, 0, (("Cob", "B"),))
        self.assertEqual(set_list(TIGHT, (cob, CLOUDS), LATIN), "ChallBCloudsUlm19982\nCobBCloudsUlm19982\n")
        self.assertEqual(set_list(TIGHT, (CLOUDS, cob), SPANISH), "CobBCloudsUlm19982\nChallBCloudsUlm19982\n")

    def test_entries_of_ordered(self):
        for style, letters in itertools.product((PLAIN, CLEAR, TIGHT), (LATIN, SPANISH, LATIN[::-1])):
            wanted = "".join(set_entry(style, book) + "\n" for book in ordered(BOOKS, letters))
            for books in itertools.permutations(BOOKS):
                self.assertEqual(set_list(style, books, letters), wanted)

    def test_books_that_are_set_alike(self):
        self.assertEqual(set_list(PLAIN, (STORMS, CLOUDS), LATIN), "Chall, B. (1998) Clouds\n" * 2)

    def test_the_first_wrong_argument_is_told(self):
        for style in NO_STYLES + ODD:
            for books, letters in itertools.product((BOOKS, None), (LATIN, None)):
                error = error_of(set_list, style, books, letters)
                self.assertIs(type(error), InvalidStyle)
                self.assertIs(error.value, style)
        for books in NO_LISTS + ODD:
            for letters in (LATIN, None):
                error = error_of(set_list, PLAIN, books, letters)
                self.assertIs(type(error), InvalidList)
                self.assertIs(error.value, books)
        for letters in NO_LETTERS + ODD:
            for books in ((), BOOKS):
                error = error_of(set_list, PLAIN, books, letters)
                self.assertIs(type(error), InvalidLetters)
                self.assertIs(error.value, letters)


class TestPlaces(unittest.TestCase):

    def test_all_stand_in_their_module(self):
        for name in ("set_entry", "set_list"):
            self.assertEqual(getattr(setting, name).__module__, "ibidem.setting")


if __name__ == "__main__":
    unittest.main()
