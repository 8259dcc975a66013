"""Promise [16]: styles that set every book alike, and books that others set unlike."""

import itertools
import random
import unittest

from ibidem import alikes
from ibidem.alikes import unlike_book, unlike_shape
from ibidem.books import SHAPES, is_book, shape_of
from ibidem.errors import InvalidStyle
from ibidem.setting import set_entry
from ibidem.styles import is_style, tokens
from samples import BOOKS, CLEAR, ODD, PLAIN, RAIN, TIGHT, changed, error_of
from small import NAMES, PLACE, RUNNING, TITLE, VOLUME, YEAR, any_style, hiding, mark, mixed, small_books

SHOWN = ("behind", True, ", ", "; ", " & ", 3, " +")
NO_STYLES = (None, (), list(CLEAR), changed(CLEAR, 0, ()), (CLEAR[0], changed(CLEAR[1], 5, True)), RAIN)
SMALL = list(small_books(7))

# Of each row all styles are alike: marks cut otherwise, choices between the same, what is never shown.
ALIKE = (
    (
        mixed(SHOWN, mark("ab"), YEAR), mixed(SHOWN, mark("a"), mark("b"), YEAR),
        mixed(SHOWN, ("if", "place", (mark("ab"),), (mark("a"), mark("b"))), YEAR),
        mixed(changed(SHOWN, 0, "none"), ("if", "volume", (), (mark("ab"), YEAR)), ("if", "volume", (mark("ab"), YEAR), ())),
    ),
    (
        mixed(SHOWN, TITLE, PLACE), mixed(SHOWN, TITLE, ("if", "place", (PLACE,), ())),
        mixed(changed(SHOWN, 5, 1), ("if", "place", (TITLE, PLACE), (TITLE,))),
        mixed(SHOWN, TITLE, ("if", "place", (PLACE,), (PLACE,))),
    ),
    (
        mixed(SHOWN, NAMES), mixed(changed(SHOWN, 6, ""), NAMES), mixed(changed(SHOWN, 6, "++"), NAMES, ("if", "place", (), ())),
    ),
    (
        mixed(("none", True, ", ", "; ", " & ", 1, " +"), NAMES), mixed(("none", False, "", "", "&", 1, " +"), NAMES),
    ),
    (
        mixed(("none", True, ".", "-", "-", 2, "-"), NAMES, YEAR), mixed(("none", False, " ", "-", "-", 2, "-"), NAMES, YEAR),
    ),
    (mixed(SHOWN, ("if", "place", (), ())), mixed(SHOWN, ("if", "volume", (), ()))),
)


def told_shape(one, other):
    return next((shape for shape in SHAPES if tokens(one, shape) != tokens(other, shape)), None)


class TestAlikes(unittest.TestCase):

    def assert_alike(self, one, other):
        self.assertIsNone(unlike_shape(one, other))
        self.assertIsNone(unlike_book(one, other))
        for book in BOOKS:
            self.assertEqual(set_entry(one, book), set_entry(other, book))

    def assert_unlike(self, one, other, shape=None):
        """The first unlike shape is told, and a book of it that shows it."""
        self.assertEqual(unlike_shape(one, other), shape or told_shape(one, other))
        book = unlike_book(one, other)
        self.assertTrue(is_book(book))
        self.assertEqual(shape_of(book), unlike_shape(one, other))
        self.assertNotEqual(set_entry(one, book), set_entry(other, book), (one, other))
        self.assertEqual(unlike_book(one=one, other=other), book)

    def test_a_style_and_itself(self):
        for style in (CLEAR, PLAIN, TIGHT) + RUNNING:
            self.assert_alike(style, style)
            self.assert_alike(style, (style[0] + (("if", "place", (), ()),), style[1]))
        self.assertIsNone(unlike_shape(one=CLEAR, other=CLEAR))

    def test_alike_styles(self):
        for row in ALIKE:
            for one, other in itertools.product(row, repeat=2):
                self.assertTrue(is_style(one))
                self.assert_alike(one, other)

    def test_styles_of_unlike_rows(self):
        for rows in itertools.combinations(ALIKE, 2):
            for one, other in itertools.product(*rows):
                if told_shape(one, other) is not None:
                    self.assert_unlike(one, other)
                    self.assert_unlike(other, one)

    def test_the_first_shape(self):
        for one, other, shape in (
            (CLEAR, PLAIN, (1, 0, 0)),
            (CLEAR, TIGHT, (1, 0, 0)),
            (mixed(SHOWN, NAMES), mixed(changed(SHOWN, 4, " an"), NAMES), (2, 0, 0)),
            (mixed(SHOWN, NAMES), mixed(changed(SHOWN, 3, ";"), NAMES), (3, 0, 0)),
            (mixed(SHOWN, NAMES), mixed(changed(SHOWN, 5, 2), NAMES), (3, 0, 0)),
            (mixed(SHOWN, NAMES), mixed(changed(SHOWN, 5, 1), NAMES), (2, 0, 0)),
            (mixed(changed(SHOWN, 5, 2), NAMES), mixed(changed(changed(SHOWN, 5, 2), 6, ""), NAMES), (3, 0, 0)),
            (mixed(SHOWN, YEAR), mixed(SHOWN, YEAR, PLACE), (1, 1, 0)),
            (mixed(SHOWN, YEAR), mixed(SHOWN, YEAR, VOLUME), (1, 0, 1)),
            (mixed(SHOWN, YEAR), mixed(SHOWN, YEAR, ("if", "place", (VOLUME,), ())), (1, 1, 1)),
            (mixed(SHOWN, VOLUME, PLACE), mixed(SHOWN, PLACE, VOLUME), (1, 1, 1)),
            (mixed(SHOWN, YEAR, ("if", "volume", (mark("-"),), ())), mixed(SHOWN, YEAR), (1, 0, 1)),
        ):
            self.assert_unlike(one, other, shape)
            self.assert_unlike(other, one, shape)

    def test_givens_dotted_and_not(self):
        for given in ("ahead", "behind"):
            for gap, join, rest in itertools.product(("", ".", "A"), ("", "."), ((), (mark("."),))):
                shown = (given, True, gap, join, join, 3, "")
                self.assert_unlike(mixed(shown, NAMES, *rest), mixed(changed(shown, 1, False), NAMES, *rest), (1, 0, 0))
                # A mark of a dot stands where the dot of a given of one capital would.
                self.assert_unlike(mixed(shown, NAMES), mixed(changed(shown, 1, False), NAMES, mark("."), *rest), (1, 0, 0))
        self.assert_unlike(
            mixed(("behind", True, ", ", "", "", 3, ""), NAMES), mixed(("ahead", True, ", ", "", "", 3, ""), NAMES), (1, 0, 0),
        )

    def test_a_mark_in_the_place_of_a_field(self):
        signs = "".join(chr(code) for code in range(32, 127))
        for piece, sign in itertools.product((NAMES, YEAR, TITLE, PLACE, VOLUME), signs):
            for one, other in (
                (mixed(SHOWN, piece), mixed(SHOWN, mark(sign), piece)),
                (mixed(SHOWN, piece, mark(sign)), mixed(SHOWN, mark(sign), piece)),
                (mixed(SHOWN, piece), mixed(SHOWN, mark(sign))),
            ):
                self.assert_unlike(one, other)
                self.assert_unlike(other, one)

    def test_marks_that_spell_a_whole_entry(self):
        # Whatever book is told, it must not be one whose entry the marks of the other style are.
        words = [one[:1] + (year,) + one[2:] for one in alikes.FULL for year in (1000, 2000)]
        for shown in (SHOWN, ("ahead", False, "", "", "", 3, ""), ("none", False, "", "", "", 3, "")):
            for pieces in ((NAMES,), (YEAR,), (TITLE,), (PLACE,), (VOLUME,), (TITLE, NAMES), (PLACE, YEAR, VOLUME)):
                style = mixed(shown, *pieces)
                for book, many in itertools.product(words, (1, 2)):
                    line = set_entry(style, (book[0][:many],) + book[1:])
                    spelt = mixed(shown, *[mark(line[at:at + 3]) for at in range(0, len(line), 3)])
                    self.assertTrue(is_style(spelt))
                    self.assert_unlike(style, spelt)
                    self.assert_unlike(spelt, style)

    def test_fields_in_another_sequence(self):
        fields = (NAMES, YEAR, TITLE, PLACE, VOLUME)
        for shown in (SHOWN, ("ahead", False, "", "", "", 3, "")):
            for one, other in itertools.combinations(list(itertools.permutations(fields))[::5], 2):
                self.assert_unlike(mixed(shown, *one), mixed(shown, *other))

    def test_a_row_that_goes_on(self):
        for piece in (mark("a"), NAMES, YEAR, TITLE, PLACE, VOLUME):
            one = mixed(SHOWN, mark("-"))
            other = mixed(SHOWN, mark("-"), piece)
            self.assert_unlike(one, other)
            self.assert_unlike(other, one)

    def test_some_styles(self):
        chance = random.Random(1)
        styles = [any_style(chance, chance.choice(("A", "1", "a", "."))) for _ in range(60)]
        styles += [hiding(chance, style) for style in styles]
        both = [0, 0]
        for one, other in itertools.combinations(styles, 2):
            if told_shape(one, other) is None:
                self.assert_alike(one, other)
            else:
                self.assert_unlike(one, other)
            both[told_shape(one, other) is None] += 1
        self.assertGreater(both[0], 1000)

    def test_alike_just_if_there_is_no_shape(self):
        chance = random.Random(2)
        for _ in range(60):
            one = any_style(chance, "a")
            other = hiding(chance, one) if chance.random() < 0.7 else any_style(chance, "a")
            unlike = [book for book in SMALL if set_entry(one, book) != set_entry(other, book)]
            self.assertEqual(unlike_shape(one, other) is None, not unlike, (one, other))
            if unlike:
                self.assertLessEqual(unlike_shape(one, other), min(map(shape_of, unlike)))

    def test_what_is_no_style(self):
        for value in NO_STYLES + ODD:
            for function in (unlike_shape, unlike_book):
                for arguments in ((value, CLEAR), (CLEAR, value), (value, None), (value, value)):
                    error = error_of(function, *arguments)
                    self.assertIs(type(error), InvalidStyle)
                    self.assertIs(error.value, value)

    def test_all_stand_in_their_module(self):
        for name in ("unlike_shape", "unlike_book"):
            self.assertEqual(getattr(alikes, name).__module__, "ibidem.alikes")


if __name__ == "__main__":
    unittest.main()
