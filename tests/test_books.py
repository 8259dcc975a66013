"""Promise [5]: books, lists and shapes."""

import itertools
import re
import unittest

from ibidem import books
from ibidem.books import SHAPES, is_book, is_list, shape_of
from ibidem.errors import InvalidBook
from samples import BOOKS, CLOUDS, FOG, ODD, RAIN, SNOW, STORMS, changed, nested

ASH = ("Ash", "J")

FAMILIES = ("A", "Z", "Ash", "Az", "Zza", "A" + "z" * 1000)
NO_FAMILIES = (
    "ash", "a", "AB", "AsH", "A b", "Ash ", " Ash", "A-b", "A1", "Ash\n", "\nAsh", "A\u00e9",
    "\u00c9a", "\u0391", "\uff21", "A\u0131", "@a", "[a", "A`", "A{", ("A",), ["A"],
)
GIVENS = ("A", "Z", "J", "AZ", "JJ", "ABCDEFGHIJKLMNOPQRSTUVWXYZ", "J" * 1000)
NO_GIVENS = ("j", "Jo", "J.", "J K", "J ", " J", "J1", "J\n", "\u00c9", "J\u00c9", "@", "[", ("J",), ["J"])
TITLES = ("A", "Z", "Az", "A a", "A a z", "On rain", "A " + "a z " * 100 + "a", "A" + "a" * 1000)
NO_TITLES = (
    "a", "on rain", "On Rain", "ON", "On ", " On", "On  rain", "On rain ", "A  ", "On-rain",
    "On rain.", "On 2", "On\train", "On\nrain", "On rain\n", "On\u00a0rain", "\u00c9t", "On r\u00e9",
    ("On",), ["On"],
)
YEARS = (1000, 1001, 1500, 2998, 2999)
NO_YEARS = (999, 3000, 0, -1000, -2001, 20010, 10 ** 5000, "2001", (2001,), [2001], 2001.0)
VOLUMES = (None, 1, 2, 9, 10, 998, 999)
NO_VOLUMES = (0, -1, 1000, 10 ** 5000, "1", "", (1,), [1], 1.0)


def is_pair(value):
    """Whether value is a pair (family, given), told anew by patterns."""
    if not isinstance(value, tuple) or len(value) != 2:
        return False
    return fits("[A-Z][a-z]*", value[0]) and fits("[A-Z]+", value[1])


def fits(pattern, value):
    """Whether value is a string that the pattern takes whole."""
    return isinstance(value, str) and re.fullmatch(pattern, value) is not None


def by_patterns(book):
    """Whether a tuple of five is a book, told anew by patterns."""
    names, year, title, place, volume = book
    return all([
        isinstance(names, tuple) and len(names) in (1, 2, 3) and all(map(is_pair, names)),
        type(year) is int and fits("[12][0-9]{3}", str(year)[:9]),
        fits("[A-Z][a-z]*( [a-z]+)*", title),
        place is None or fits("[A-Z][a-z]*", place),
        volume is None or type(volume) is int and fits("[1-9][0-9]{0,2}", str(volume)[:9]),
    ])


class TestIsBook(unittest.TestCase):

    def assert_book(self, value):
        self.assertIs(is_book(value), True, value)

    def assert_no_book(self, value):
        self.assertIs(is_book(value), False)

    def test_ordinary_books(self):
        for book in BOOKS:
            self.assert_book(book)
        self.assertIs(is_book(value=RAIN), True)

    def test_one_to_three_names(self):
        for many in (1, 2, 3):
            self.assert_book(changed(RAIN, 0, (ASH,) * many))
        for many in (0, 4, 5, 100):
            self.assert_no_book(changed(RAIN, 0, (ASH,) * many))

    def test_names_within_one_book_may_be_equal(self):
        self.assert_book(changed(RAIN, 0, (ASH, ASH, ASH)))

    def test_families(self):
        for family in FAMILIES:
            self.assert_book(changed(RAIN, 0, ((family, "J"),)))
            self.assert_book(changed(RAIN, 0, (ASH, ASH, (family, "J"))))
        for family in NO_FAMILIES + (None,) + ODD:
            self.assert_no_book(changed(RAIN, 0, ((family, "J"),)))
            self.assert_no_book(changed(RAIN, 0, (ASH, ASH, (family, "J"))))

    def test_givens(self):
        for given in GIVENS:
            self.assert_book(changed(RAIN, 0, (("Ash", given),)))
            self.assert_book(changed(RAIN, 0, (ASH, ("Ash", given))))
        for given in NO_GIVENS + (None,) + ODD:
            self.assert_no_book(changed(RAIN, 0, (("Ash", given),)))
            self.assert_no_book(changed(RAIN, 0, (ASH, ("Ash", given))))

    def test_names_of_another_form(self):
        for pair in (("Ash",), ("Ash", "J", "K"), (), ["Ash", "J"], "AJ", "Ash", None):
            self.assert_no_book(changed(RAIN, 0, (pair,)))
            self.assert_no_book(changed(RAIN, 0, (ASH, pair)))
        for names in ([ASH], ASH, list(ASH), "Ash", None):
            self.assert_no_book(changed(RAIN, 0, names))

    def test_years(self):
        for year in YEARS:
            self.assert_book(changed(RAIN, 1, year))
        for year in NO_YEARS + (None,) + ODD:
            self.assert_no_book(changed(RAIN, 1, year))

    def test_titles(self):
        for title in TITLES:
            self.assert_book(changed(RAIN, 2, title))
        for title in NO_TITLES + (None,) + ODD:
            self.assert_no_book(changed(RAIN, 2, title))

    def test_places(self):
        for place in FAMILIES + (None,):
            self.assert_book(changed(RAIN, 3, place))
        for place in NO_FAMILIES + ODD:
            self.assert_no_book(changed(RAIN, 3, place))

    def test_volumes(self):
        for volume in VOLUMES:
            self.assert_book(changed(RAIN, 4, volume))
        for volume in NO_VOLUMES + ODD:
            self.assert_no_book(changed(RAIN, 4, volume))

    def test_books_of_another_length_or_kind(self):
        for value in (RAIN[:4], RAIN + (None,), (), list(RAIN), (RAIN,), [RAIN], "On rain", None) + ODD:
            self.assert_no_book(value)

    def test_each_part_with_each_other(self):
        parts = (
            ((ASH,), (ASH, ("Elm", "KL"), ASH), (), [ASH], (ASH, ("Elm", "kl")), True),
            (1000, 2999, 999, True, None),
            ("On rain", "F", "On Rain", "", None),
            (None, "Ulm", "ulm", False),
            (None, 1, 999, True, 0),
        )
        for value in itertools.product(*parts):
            self.assertIs(is_book(value), by_patterns(value), value)

    def test_arguments_are_not_changed(self):
        value = [list(RAIN[0]), 2001, "On rain", None, None]
        is_book(value)
        self.assertEqual(value, [list(RAIN[0]), 2001, "On rain", None, None])


class TestIsList(unittest.TestCase):

    def test_lists(self):
        for value in ((), (RAIN,), BOOKS, BOOKS[::-1], (CLOUDS, STORMS)):
            self.assertIs(is_list(value), True)
        self.assertIs(is_list(value=BOOKS), True)

    def test_lists_of_any_number(self):
        many = tuple(changed(RAIN, 1, year) for year in range(1000, 3000))
        self.assertIs(is_list(many), True)
        self.assertIs(is_list(many + (many[7],)), False)

    def test_a_book_twice(self):
        for value in ((RAIN, RAIN), (RAIN, FOG, RAIN), (SNOW, RAIN, FOG, FOG)):
            self.assertIs(is_list(value), False)

    def test_the_same_book_built_anew(self):
        again = ((("Ash", "J"), ("Elm", "K" + "L")), 2000 + 1, "On " + "rain", None, None)
        self.assertIs(is_list((RAIN, again)), False)

    def test_what_is_no_tuple_of_books(self):
        for value in ([], [RAIN], RAIN, list(BOOKS), "", None, True, 0, {}):
            self.assertIs(is_list(value), False)
        for value in ODD:
            self.assertIs(is_list(value), False)
            self.assertIs(is_list((value,)), False)
            self.assertIs(is_list((RAIN, value)), False)
            self.assertIs(is_list((value, RAIN, value)), False)

    def test_what_is_nested_deep(self):
        for kind in (tuple, list):
            self.assertIs(is_list(nested(30, kind)), False)


class TestShapes(unittest.TestCase):

    def test_all_twelve_ascending(self):
        every = tuple(itertools.product((1, 2, 3), (0, 1), (0, 1)))
        self.assertEqual(SHAPES, every)
        self.assertIsInstance(SHAPES, tuple)
        for shape in SHAPES:
            self.assertIsInstance(shape, tuple)
            self.assertEqual([type(part) for part in shape], [int, int, int])

    def test_each_shape_is_that_of_its_books(self):
        for shape in SHAPES:
            many, placed, counted = shape
            place = "Ulm" if placed else None
            volume = 1 if counted else None
            book = ((ASH,) * many, 2001, "On rain", place, volume)
            self.assertEqual(shape_of(book), shape)

    def test_shapes_of_ordinary_books(self):
        self.assertEqual(shape_of(RAIN), (2, 0, 0))
        self.assertEqual(shape_of(CLOUDS), (1, 1, 1))
        self.assertEqual(shape_of(SNOW), (3, 1, 0))
        self.assertEqual(shape_of(book=FOG), (1, 0, 1))

    def test_a_shape_is_made_of_integers(self):
        for book in BOOKS:
            shape = shape_of(book)
            self.assertIs(type(shape), tuple)
            self.assertEqual([type(part) for part in shape], [int, int, int])

    def test_what_is_no_book(self):
        wrong = (None, (), BOOKS, list(RAIN), changed(RAIN, 4, True), changed(RAIN, 1, 3000))
        for value in wrong + ODD:
            with self.assertRaises(InvalidBook) as caught:
                shape_of(value)
            self.assertIs(caught.exception.value, value)


class TestPlaces(unittest.TestCase):

    def test_all_stand_in_their_module(self):
        for function in (books.is_book, books.is_list, books.shape_of):
            self.assertEqual(function.__module__, "ibidem.books")


if __name__ == "__main__":
    unittest.main()
