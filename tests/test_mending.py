"""Promise [15]: styles mended by marks."""

import itertools
import random
import unittest

from ibidem import mending
from ibidem.apart import is_apart
from ibidem.errors import InvalidMarks, InvalidNumber, InvalidStyle, Undefined
from ibidem.mending import least_mending, with_mending
from ibidem.styles import hides, is_style
from samples import CLEAR, ODD, PLAIN, RAIN, TIGHT, changed, error_of
from small import NAMES, PLACE, TITLE, VOLUME, YEAR, any_style, hiding, mark, mixed

SHOWN = ("behind", True, ", ", "; ", " & ", 3, "")
SHORT = mixed(SHOWN, NAMES, YEAR, TITLE)
NO_STYLES = (None, (), list(CLEAR), changed(CLEAR, 0, ()), (CLEAR[0], changed(CLEAR[1], 5, True)), RAIN)

NO_MARKS = (
    None, "", "a", "ab", (), [], ("",), [""], ("a", "a"), ["a", "b", "a"], ("abcd",), ("a", "b", "c", "d"),
    ["a", "b", "c", "d"], ("\n",), ("\u00e9",), ("\x7f",), (None,), (1,), (True,), (("a",),), [["a"]], ("a", ["b"]),
    ("a", None), {"a": 1}, 1, True, ("mark", "a", "abcd"),
)
# None of these is a mending of a style of three pieces by two marks.
NO_MENDINGS = (
    None, "", 0, [], [(0, 0)], ([0, 0],), (0, 0), ((0,),), ((0, 0, 0),), ((),), ((0, 2),), ((4, 0),), ((-1, 0),),
    ((0, -1),), ((0, 0), (0, 1)), ((0, 0), (0, 0)), ((1, 0), (0, 0)), ((0, 0), (2, 0), (1, 0)), ((True, 0),),
    ((0, False),), ((1, True),), ((None, 0),), ((0, None),), (("0", 0),), ((0, "0"),), ((0, 0), None), ((0, 0), (4, 0)),
    (((0,), 0),), ((0, [0]),), ((10 ** 5000, 0),), ((0, 10 ** 5000),), ((0, 0), [1, 0]),
)


def choice(field, there, lacking=()):
    return ("if", field, there, lacking)


def told_mended(style, marks, put):
    """The style mended, told anew."""
    pieces, shown = style
    whole = []
    for at in range(len(pieces) + 1):
        whole += [mark(marks[number]) for place, number in put if place == at]
        whole += pieces[at:at + 1]
    return (tuple(whole), shown)


def told_least(style, marks, most):
    """The first mending, of all in the sequence that is told."""
    for many in range(most + 1):
        found = []
        for places in itertools.combinations(range(len(style[0]) + 1), many):
            for numbers in itertools.product(range(len(marks)), repeat=many):
                found.append(tuple(zip(places, numbers)))
        for put in sorted(found):
            whole = told_mended(style, marks, put)
            if len(whole[0]) <= 10 and is_apart(whole):
                return put
    return None


class TestWithMending(unittest.TestCase):

    def test_no_marks_are_put(self):
        for style in (SHORT, CLEAR, PLAIN, TIGHT):
            self.assertEqual(with_mending(style, ("a",), ()), style)

    def test_one_mark_at_each_place(self):
        pieces = (NAMES, YEAR, TITLE)
        for at in range(4):
            for number, text in enumerate(("-", ": ")):
                wanted = (pieces[:at] + (("mark", text),) + pieces[at:], SHOWN)
                self.assertEqual(with_mending(SHORT, ("-", ": "), ((at, number),)), wanted)
        self.assertEqual(
            with_mending(style=SHORT, marks=["-"], mending=((3, 0),)), mixed(SHOWN, NAMES, YEAR, TITLE, mark("-")),
        )

    def test_several_marks(self):
        marks = ["-", "abc", " "]
        self.assertEqual(
            with_mending(SHORT, marks, ((0, 1), (1, 1), (2, 0), (3, 2))),
            mixed(SHOWN, mark("abc"), NAMES, mark("abc"), YEAR, mark("-"), TITLE, mark(" ")),
        )
        self.assertEqual(marks, ["-", "abc", " "])
        self.assertEqual(with_mending(CLEAR, ("?",), ((5, 0), (7, 0))), (
            CLEAR[0][:5] + (mark("?"),) + CLEAR[0][5:] + (mark("?"),), CLEAR[1],
        ))

    def test_any_mending_of_any_style(self):
        chance = random.Random(1)
        for _ in range(300):
            style = any_style(chance, "Aa1 ")
            marks = chance.sample(("-", "A", " a", "1", "a.b"), chance.randint(1, 3))
            places = sorted(chance.sample(range(len(style[0]) + 1), chance.randint(0, 2)))
            put = tuple((at, chance.randrange(len(marks))) for at in places)
            found = with_mending(style, chance.choice((list, tuple))(marks), put)
            self.assertEqual(found, told_mended(style, marks, put))
            self.assertTrue(is_style(found))

    def test_hiding_styles_may_be_mended(self):
        self.assertEqual(with_mending(PLAIN, ("!",), ((5, 0),)), (PLAIN[0] + (mark("!"),), PLAIN[1]))

    def test_at_most_ten_pieces(self):
        for many in range(8, 11):
            style = mixed(SHOWN, *(mark("a"),) * many)
            for put in itertools.chain.from_iterable(itertools.combinations(range(many + 1), size) for size in range(4)):
                value = tuple((at, 0) for at in put)
                if many + len(value) <= 10:
                    self.assertEqual(len(with_mending(style, ("b",), value)[0]), many + len(value))
                else:
                    self.assert_undefined(style, ("b",), value)

    def assert_undefined(self, style, marks, value):
        error = error_of(with_mending, style, marks, value)
        self.assertIs(type(error), Undefined, value)
        self.assertEqual(error.what, "mending")

    def test_what_is_no_mending(self):
        for value in NO_MENDINGS + tuple(value for value in ODD if value != ()):
            self.assert_undefined(SHORT, ("-", "+"), value)
        self.assert_undefined(SHORT, ("-",), ((0, 1),))
        self.assert_undefined(changed(SHORT, 0, (NAMES,)), ("-",), ((2, 0),))
        self.assert_undefined(CLEAR, ("-",), ((8, 0),))

    def test_errors_in_their_sequence(self):
        for style in NO_STYLES + ODD:
            for marks in (("-",), ()):
                for value in ((), None):
                    error = error_of(with_mending, style, marks, value)
                    self.assertIs(type(error), InvalidStyle)
                    self.assertIs(error.value, style)
        for marks in NO_MARKS + ODD[:6]:
            for value in ((), None):
                error = error_of(with_mending, SHORT, marks, value)
                self.assertIs(type(error), InvalidMarks, marks)
                self.assertIs(error.value, marks)


class TestLeastMending(unittest.TestCase):

    def test_what_is_apart_needs_none(self):
        for most in (0, 1, 2):
            self.assertEqual(least_mending(CLEAR, ("-",), most), ())

    def test_one_mark(self):
        # Without a mark the givens run into the title, or the title's place does.
        style = mixed(("behind", False, "", ";", ";", 3, ""), NAMES, TITLE, YEAR, choice("volume", (mark(","), VOLUME)))
        self.assertTrue(hides(style))
        style = mixed(("behind", False, "", ";", ";", 3, ""), NAMES, TITLE, PLACE, YEAR, VOLUME)
        self.assertIs(is_apart(style), False)
        self.assertIsNone(least_mending(style, ("-",), 0))
        self.assertEqual(told_least(style, ("-",), 2), least_mending(style, ("-",), 2))
        style = mixed(("behind", False, ",", ";", ";", 3, ""), NAMES, PLACE, TITLE, choice("volume", (VOLUME,)), YEAR)
        self.assertEqual(least_mending(style=style, marks=["-"], most=1), ((1, 0),))
        self.assertEqual(least_mending(style, ("A", "-"), 2), ((1, 1),))
        self.assertEqual(least_mending(style, ("-", "+"), 2), ((1, 0),))
        self.assertIsNone(least_mending(style, ("-", "+"), 0))

    def test_two_marks(self):
        # A place between givens and title is only told by marks on both of its sides.
        last = choice("volume", (mark("A"), YEAR, VOLUME), (YEAR, mark("9")))
        style = mixed(("behind", False, ",", ";", ";", 3, ""), NAMES, choice("place", (PLACE,)), TITLE, last)
        for marks, wanted in (
            (["."], ((1, 0), (2, 0))), ((".", "-"), ((1, 0), (2, 0))), (("A", "-"), ((1, 1), (2, 1))),
            (("-", "A"), ((1, 0), (2, 0))),
        ):
            self.assertEqual(least_mending(style, marks, 2), wanted)
            self.assertIsNone(least_mending(style, marks, 1))
            self.assertIsNone(least_mending(style, marks, 0))
        self.assertIsNone(least_mending(style, ("A",), 2))
        style = mixed(
            ("behind", False, "", ";", ";", 3, ""), YEAR, TITLE, choice("volume", (VOLUME, PLACE), (PLACE,)), NAMES,
        )
        self.assertEqual(least_mending(style, ("Aa", "a"), 2), ((2, 0), (3, 1)))

    def test_against_all_mendings(self):
        chance = random.Random(2)
        sizes = {None: 0, 0: 0, 1: 0, 2: 0}
        for _ in range(150):
            fields = [NAMES, *chance.choice((
                (YEAR, TITLE, choice("place", (PLACE, VOLUME), (VOLUME,))),
                (YEAR, TITLE, choice("volume", (VOLUME, PLACE), (PLACE,))),
                (YEAR, TITLE, choice("volume", (PLACE, mark("1"), VOLUME), (mark("a"), PLACE))),
                (choice("place", (PLACE,)), TITLE, choice("volume", (mark("A"), YEAR, VOLUME), (YEAR, mark("9")))),
            ))]
            if chance.random() < 0.5:
                chance.shuffle(fields)
            shown = ("behind", False, chance.choice(("", "A", ",")), ";", chance.choice((";", "", "A")), 3, "")
            style = (tuple(fields), shown)
            marks = chance.sample(("A", "1", "-", "a", ".", "Aa", "AA"), chance.randint(1, 2))
            for most in (0, 1, 2):
                found = least_mending(style, marks, most)
                self.assertEqual(found, told_least(style, marks, most), (style, marks))
                if found is not None:
                    self.assertTrue(is_apart(with_mending(style, marks, found)))
            sizes[None if found is None else len(found)] += 1
        self.assertGreater(min(sizes.values()), 5, sizes)

    def test_hiding_styles_have_none(self):
        chance = random.Random(3)
        for style in (PLAIN, SHORT, *(hiding(chance, CLEAR) for _ in range(20))):
            if hides(style):
                for most in (0, 1, 2):
                    self.assertIsNone(least_mending(style, ("-", "+"), most))

    def test_results_have_at_most_ten_pieces(self):
        shown = ("behind", False, ",", ";", ";", 3, "")
        fields = (NAMES, PLACE, TITLE, choice("volume", (VOLUME,)), YEAR)
        for many, wanted in ((4, ((1, 0),)), (5, None)):
            style = mixed(shown, *fields, *(mark("."),) * many)
            self.assertEqual(least_mending(style, ("-",), 1), wanted)
        self.assertEqual(least_mending(mixed(CLEAR[1], *CLEAR[0], *(mark("."),) * 3), ("-",), 2), ())

    def test_errors_in_their_sequence(self):
        for style in NO_STYLES + ODD:
            for marks in (("-",), ()):
                for most in (1, 3, None):
                    error = error_of(least_mending, style, marks, most)
                    self.assertIs(type(error), InvalidStyle)
                    self.assertIs(error.value, style)
        for style in (CLEAR, TIGHT, PLAIN):
            for marks in NO_MARKS + ODD[:6]:
                for most in (1, 3, None):
                    error = error_of(least_mending, style, marks, most)
                    self.assertIs(type(error), InvalidMarks, marks)
                    self.assertIs(error.value, marks)
            for most in (3, -1, True, False, None, "1", (), (1,), [1]) + ODD:
                if not (type(most) is int and 0 <= most <= 2):
                    error = error_of(least_mending, style, ("-",), most)
                    self.assertIs(type(error), InvalidNumber, most)
                    self.assertIs(error.value, most)

    def test_the_longest_search(self):
        aaa = mark("aaa")
        style = mixed(
            ("ahead", False, "a", "a", "aa", 3, "aaa"), choice("place", (aaa,) * 3, (aaa,) * 3),
            choice("volume", (aaa, VOLUME, YEAR), (aaa, aaa, YEAR)), choice("volume", (aaa, aaa, TITLE), (TITLE, aaa, aaa)),
            choice("place", (PLACE, NAMES, aaa), (NAMES, aaa, aaa)),
        )
        self.assertFalse(hides(style))
        self.assertIsNone(least_mending(style, ("Aa", "."), 2))
        self.assertIsNone(told_least(style, ("Aa", "."), 2))


class TestPlaces(unittest.TestCase):

    def test_all_stand_in_their_module(self):
        for name in ("with_mending", "least_mending"):
            self.assertEqual(getattr(mending, name).__module__, "ibidem.mending")


if __name__ == "__main__":
    unittest.main()
