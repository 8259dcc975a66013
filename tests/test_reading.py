"""Promise [12]: lines read back as books."""

import itertools
import math
import unittest

from ibidem import reading
from ibidem.books import SHAPES, is_book, shape_of
from ibidem.errors import InvalidStyle, InvalidText, Undefined
from ibidem.reading import read_entry, read_list
from ibidem.setting import set_entry, set_list
from ibidem.shelving import ordered
from ibidem.spots import is_final, steps
from samples import (
    BOOKS, CLEAR, CLOUDS, FOG, LATIN, ODD, PLAIN, RAIN, SNOW, SPANISH, STORMS, TIGHT, changed, error_of,
)
from small import NAMES, PLACE, RUNNING, TITLE, VOLUME, YEAR, by_entries, mark, mixed, small_books

NO_STYLES = (None, (), list(CLEAR), changed(CLEAR, 0, ()), (CLEAR[0], changed(CLEAR[1], 5, True)), RAIN)


def in_sequence(books):
    return tuple(sorted(books, key=lambda book: (shape_of(book), book)))


def final_rows(style, shape, text):
    """How many rows of spots lead from the shape's start to a final spot by the text."""
    spots = {(shape, -1, 0): 1}
    for sign in text:
        reached = {}
        for spot, many in spots.items():
            for step in steps(style, spot, sign):
                reached[step] = reached.get(step, 0) + many
        spots = reached
    return sum(many for spot, many in spots.items() if is_final(style, spot))


class TestReadEntry(unittest.TestCase):

    def test_an_entry_is_read_as_its_book(self):
        for book in BOOKS:
            self.assertEqual(read_entry(CLEAR, set_entry(CLEAR, book)), (book,))
        line = "Ash, J.; Elm, K.L. & Oak, Z. (1000) Snow and ice: Bern, v12"
        book = changed(SNOW, 4, 12)
        self.assertEqual(read_entry(style=CLEAR, text=line), (book,))

    def test_parts_are_integers_and_strings(self):
        (book,) = read_entry(CLEAR, "Ash, J. (2001) On rain: Ulm, v7")
        self.assertEqual(book, ((("Ash", "J"),), 2001, "On rain", "Ulm", 7))
        self.assertEqual([type(part) for part in book], [tuple, int, str, str, int])
        self.assertEqual([type(part) for part in book[0]], [tuple])

    def test_several_readings_in_sequence(self):
        style = mixed(("behind", False, "", "", "", 3, ""), NAMES, TITLE, PLACE, YEAR, VOLUME)
        self.assertEqual(read_entry(style, "ABCD1999"), (
            ((("A", "BC"),), 1999, "D", None, None),
            ((("A", "B"),), 1999, "C", "D", None),
        ))
        self.assertEqual(read_entry(style, "AshJKElmLOn rain200112"), (
            ((("Ash", "JK"), ("Elm", "L")), 2001, "On rain", None, 12),
        ))
        self.assertEqual(read_entry(style, "ABCDEF19991"), (
            ((("A", "BCDE"),), 1999, "F", None, 1),
            ((("A", "BCD"),), 1999, "E", "F", 1),
            ((("A", "B"), ("C", "DE")), 1999, "F", None, 1),
            ((("A", "BC"), ("D", "E")), 1999, "F", None, 1),
            ((("A", "B"), ("C", "D")), 1999, "E", "F", 1),
        ))

    def test_the_sequence_is_that_of_tuples(self):
        style = mixed(("ahead", False, "", "", "", 3, ""), NAMES, TITLE, YEAR, PLACE, VOLUME)
        self.assertEqual(read_entry(style, "FEDCBA1999"), (
            ((("B", "FEDC"),), 1999, "A", None, None),
            ((("D", "FE"), ("B", "C")), 1999, "A", None, None),
            ((("E", "F"), ("B", "DC")), 1999, "A", None, None),
        ))

    def test_figures_that_run_into_each_other(self):
        style = mixed(("behind", True, "", "", "", 3, ""), NAMES, TITLE, PLACE, VOLUME, mark("1"), YEAR)
        book = ((("Ash", "J"),), 1111, "F", None, None)
        for figures, readings in (
            ("11111", ((1111, None),)), ("111111", ((1111, 1),)), ("11111111", ((1111, 111),)), ("1111", ()),
            ("111111111", ()), ("01" + "1111", ()), ("121111", ()), ("911999", ((1999, 9),)), ("113999", ()),
        ):
            wanted = [changed(changed(book, 1, year), 4, volume) for year, volume in readings]
            self.assertEqual(read_entry(style, "AshJ.F" + figures), tuple(wanted), figures)

    def test_books_of_several_shapes_by_shape_first(self):
        style = mixed(
            ("behind", True, "", "", "", 3, ""), NAMES, TITLE,
            ("if", "place", (PLACE,), (mark("U"),)), ("if", "volume", (VOLUME,), (mark("1"),)), YEAR,
        )
        wanted = tuple(
            ((("Ash", "J"),), 1998, "On rain", place, volume)
            for place, volume in itertools.product((None, "U"), (None, 1))
        )
        self.assertEqual(read_entry(style, "AshJ.On rainU11998"), wanted)

    def test_texts_without_a_reading(self):
        for style in (CLEAR,) + RUNNING:
            for text in (
                "", " ", "\n", "a", "A", "1", "\u00e9", "\ud800", "A" * 100, "a" * 100, "1" * 100, " " * 100,
                "Ash", "|", "A\n1111",
            ):
                self.assertEqual(read_entry(style, text), (), text)

    def test_entries_with_something_wrong(self):
        line = set_entry(CLEAR, SNOW)
        for text in (
            line + "\n", "\n" + line, line + " ", " " + line, line[:-1], line[1:], line * 2, line.lower(), line.upper(),
            line.replace("1000", "0999"), line.replace("1000", "3000"), line.replace("1000", "10000"),
            line.replace("1000", "100"), line.replace("1000", "\uff11000"), line.replace("K.L.", "K.L"),
            line.replace("K.L.", "KL."), line.replace("K.L.", ""), line.replace("K.L.", "k."), line.replace("Elm", "elm"),
            line.replace("Elm", "ElM"), line.replace("Elm", "El m"), line.replace("Elm", "\u00c9lm"),
            line.replace("ice", "Ice"), line.replace(" ice", "  ice"), line.replace("ice", "ic\u00e9"),
            line.replace("Bern", "bern"), line.replace("Bern", ""), line.replace(" & ", "; "), line.replace(";", " &"),
            line.replace(" & ", " &\n"), line + ", v0", line[:-1] + ", v0", line[:-1] + ", v01", line[:-1] + ", v1000",
            line[:-1] + ", v", line[:-1] + ", v12.", line.replace(" and", "\nand"),
        ):
            self.assertEqual(read_entry(CLEAR, text), (), text)
        self.assertEqual(read_entry(CLEAR, line), (SNOW,))

    def test_all_readings_of_all_small_books(self):
        books = list(small_books(9))
        self.assertEqual(len(set(books)), len(books))
        self.assertTrue(all(is_book(book) for book in books))
        self.assertEqual({shape_of(book) for book in books}, set(SHAPES))
        several = []
        for style in RUNNING:
            # A book that is set as so short a text is surely one of these books.
            lines = {text: alike for text, alike in by_entries(style, books).items() if len(text) <= 9 + 4}
            several += [len(alike) > 1 for alike in lines.values()]
            for text, alike in lines.items():
                self.assertEqual(read_entry(style, text), in_sequence(alike), (style, text))
        self.assertGreater(len(several), 1500)
        self.assertGreater(sum(several), 400)

    def test_readings_are_set_as_the_text(self):
        several = 0
        for style in RUNNING:
            for text, alike in by_entries(style, list(small_books(9))[::5]).items():
                found = read_entry(style, text)
                self.assertLessEqual(set(alike), set(found))
                self.assertEqual(found, in_sequence(set(found)))
                self.assertEqual({set_entry(style, book) for book in found}, {text})
                several += len(found) > 1
        self.assertGreater(several, 500)

    def test_as_many_readings_as_rows_of_spots(self):
        for style in RUNNING:
            for text in list(by_entries(style, small_books(8)))[::41]:
                shapes = [shape_of(book) for book in read_entry(style, text)]
                for shape in SHAPES:
                    self.assertEqual(shapes.count(shape), final_rows(style, shape, text), (style, text))

    def test_long_texts_of_many_readings(self):
        for given in ("ahead", "behind"):
            style = mixed(
                (given, False, "", "", "", 3, ""), NAMES, TITLE, PLACE, YEAR,
                ("if", "volume", (VOLUME,), (mark("1"),)),
            )
            # Title and place take a capital each, the givens are all rows of capitals that fill the rest.
            cuts = [math.comb(95 - many - 1 - placed - 1, many - 1) for many in (1, 2, 3) for placed in (0, 1)]
            found = read_entry(style, "A" * 95 + "20011")
            self.assertEqual(len(found), 2 * sum(cuts))
            self.assertEqual(found, in_sequence(set(found)))
            self.assertEqual({set_entry(style, book) for book in found}, {"A" * 95 + "20011"})
            self.assertEqual(len(read_entry(style, "A" * 95 + "20012")), sum(cuts))
            for text in ("A" * 96 + "200", "A" * 95 + "20010", "A" * 94 + " 20011", "a" + "A" * 94 + "20011"):
                self.assertEqual(read_entry(style, text), ())

    def test_long_texts_of_dots(self):
        style = mixed(("ahead", True, "", ".", ".", 3, ""), NAMES, mark("."), YEAR, TITLE, PLACE, VOLUME)
        found = read_entry(style, "A." * 47 + "2001A")
        # One name is "A.A. .. A" behind the givens' dots; two and three share 45 and 44 givens.
        self.assertEqual(len(found), 1 + 44 + math.comb(43, 2))
        self.assertEqual(found[0], ((("A", "A" * 46),), 2001, "A", None, None))
        self.assertEqual({set_entry(style, book) for book in found}, {"A." * 47 + "2001A"})
        self.assertEqual(read_entry(style, "A." * 47 + "A2001A"), ())

    def test_long_texts_of_marks_and_titles(self):
        style = mixed(
            ("ahead", True, " a", "a", ".", 3, ""), TITLE, mark("a a"), mark(" a"), PLACE, mark("aa"), mark("aaa"),
            NAMES, VOLUME, YEAR,
        )
        for text in ("A" + " a" * 49 + "A", "A" + "a" * 98 + "A", "A." * 50, ("A" + "a" * 9) * 10, "A a" * 33):
            self.assertEqual(read_entry(style, text), ())
        line = "A" + " a" * 30 + "a a a" + "Ba" + "aaaaa" + "C.D. aEaa" + "99" + "1999"
        self.assertEqual(read_entry(style, line), (((("Eaa", "CD"),), 1999, "A" + " a" * 30, "Ba", 99),))
        self.assertEqual(read_entry(style, line.replace("a a aBa", "a  aBa")), ())

    def test_hidden_styles(self):
        for style in (
            PLAIN, mixed(CLEAR[1], NAMES, YEAR, TITLE, PLACE), mixed(changed(CLEAR[1], 5, 2), *CLEAR[0]),
            mixed(changed(CLEAR[1], 0, "none"), *CLEAR[0]), mixed(CLEAR[1], mark("-")),
        ):
            for text in ("", "\n", set_entry(style, RAIN), set_list(style, BOOKS, LATIN), "?"):
                for function in (read_entry, read_list):
                    error = error_of(function, style, text)
                    self.assertIs(type(error), Undefined)
                    self.assertEqual(error.what, "hidden")

    def test_what_is_no_style(self):
        for value in NO_STYLES + ODD:
            for text in ("", "Ash", "Ash\n"):
                for function in (read_entry, read_list):
                    error = error_of(function, value, text)
                    self.assertIs(type(error), InvalidStyle)
                    self.assertIs(error.value, value)


class TestReadList(unittest.TestCase):

    def assert_wrong(self, style, text, at):
        error = error_of(read_list, style, text)
        self.assertIs(type(error), InvalidText, text)
        self.assertEqual((error.text, error.at), (text, at))

    def test_lists_in_any_sequence(self):
        lines = {book: set_entry(CLEAR, book) + "\n" for book in BOOKS}
        for many in range(len(BOOKS) + 1):
            for books in itertools.permutations(BOOKS, many):
                self.assertEqual(read_list(CLEAR, "".join(lines[book] for book in books)), books)

    def test_no_lines(self):
        self.assertEqual(read_list(style=CLEAR, text=""), ())

    def test_a_wrong_line(self):
        lines = [set_entry(CLEAR, book) + "\n" for book in BOOKS]
        for at in range(len(lines) + 1):
            for wrong in ("\n", "?\n", " " + lines[-1], lines[0].replace(".", "", 1), "\u00e9\n", "Ash\r\n", "Ash\u2028\n"):
                text = "".join(lines[:at]) + wrong + "".join(lines[at:])
                self.assert_wrong(CLEAR, text, len("".join(lines[:at])))

    def test_the_first_wrong_line_is_told(self):
        first, second = set_entry(CLEAR, RAIN) + "\n", set_entry(CLEAR, FOG) + "\n"
        self.assert_wrong(CLEAR, first + "?\n" + first, len(first))
        self.assert_wrong(CLEAR, first + first + "?\n", len(first))
        self.assert_wrong(CLEAR, first + second + first + second, len(first + second))
        self.assert_wrong(CLEAR, "\n" + first + "Ash", 0)
        self.assert_wrong(CLEAR, first + "\n\n" + first, len(first))

    def test_a_line_again(self):
        lines = [set_entry(CLEAR, book) + "\n" for book in BOOKS]
        text = "".join(lines)
        for line in lines:
            self.assert_wrong(CLEAR, text + line, len(text))
            self.assert_wrong(CLEAR, line + line, len(line))

    def test_a_line_without_a_line_feed(self):
        first, second = set_entry(CLEAR, RAIN), set_entry(CLEAR, FOG)
        self.assert_wrong(CLEAR, first, 0)
        self.assert_wrong(CLEAR, first + "\n" + second, len(first) + 1)
        self.assert_wrong(CLEAR, first + "\n" + first, len(first) + 1)
        self.assert_wrong(CLEAR, first + "\n ", len(first) + 1)
        for sign in ("\r", "\x0b", "\x0c", "\x1c", "\x85", "\u2028", "|"):
            self.assert_wrong(CLEAR, first + sign + second, 0)
            self.assert_wrong(CLEAR, first + sign + second + "\n", 0)

    def test_a_line_of_several_readings(self):
        one, two = "AshJOn2001\n", "ABCD1999\n"
        (book,) = read_entry(TIGHT, one[:-1])
        self.assertEqual(read_list(TIGHT, one), (book,))
        self.assertEqual(len(read_entry(TIGHT, two[:-1])), 2)
        self.assert_wrong(TIGHT, one + two, len(one))
        self.assert_wrong(TIGHT, two + one, 0)

    def test_what_is_set_is_read_in_order(self):
        for letters in (LATIN, SPANISH, LATIN[::-1]):
            for many in range(len(BOOKS) + 1):
                for books in itertools.combinations(BOOKS, many):
                    text = set_list(CLEAR, books[::-1], letters)
                    self.assertEqual(read_list(CLEAR, text), ordered(books, letters))

    def test_small_books_are_set_and_read(self):
        books = tuple(small_books(5))
        self.assertEqual(read_list(CLEAR, set_list(CLEAR, books, LATIN)), ordered(books, LATIN))

    def test_volumes_apart_alone(self):
        text = set_list(CLEAR, (STORMS, CLOUDS), LATIN)
        self.assertEqual(text, "Chall, B. (1998) Clouds: Ulm, v2\nChall, B. (1998) Clouds: Ulm, v12\n")
        self.assertEqual(read_list(CLEAR, text), (CLOUDS, STORMS))


class TestPlaces(unittest.TestCase):

    def test_all_stand_in_their_module(self):
        for name in ("read_entry", "read_list"):
            self.assertEqual(getattr(reading, name).__module__, "ibidem.reading")


if __name__ == "__main__":
    unittest.main()
