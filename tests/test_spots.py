"""Promise [11]: spots, the steps between them and the final ones."""

import unittest

from ibidem import spots
from ibidem.books import SHAPES, shape_of
from ibidem.errors import InvalidStyle, Undefined
from ibidem.setting import set_entry
from ibidem.spots import is_final, spots_of, steps
from ibidem.styles import tokens
from retold import SIGNS, told_final, told_steps
from samples import BOOKS, CLEAR, ODD, PLAIN, TIGHT, changed, error_of

GREATEST = {
    "sign": 1, "family": 1, "place": 1, "given": 1, "dotted": 2, "year": 4, "title": 2, "volume": 3,
}

# Each field behind each other one; a given and a sign of every sort behind one another.
MIXED = (
    (
        ("mark", "A"), ("names",), ("title",), ("mark", "a1"), ("year",), ("volume",), ("mark", "0"),
        ("if", "volume", (("mark", " a"), ("place",)), (("place",), ("mark", "."))),
    ),
    ("ahead", False, "", "A", "", 3, ""),
)
DOTS = ((("names",), ("volume",), ("year",), ("place",), ("title",)), ("behind", True, "B.", ".", "C", 3, ""))
EMPTY = ((("place",),), PLAIN[1])
STYLES = (PLAIN, CLEAR, TIGHT, MIXED, DOTS, EMPTY)


def at_token(style, shape, token, inside):
    return (shape, tokens(style, shape).index(token), inside)


class TestSpotsOf(unittest.TestCase):

    def test_a_short_style_in_full(self):
        style = ((("year",), ("mark", "-"), ("volume",)), PLAIN[1])
        wanted = []
        for shape in SHAPES:
            wanted += [(shape, -1, 0), (shape, 0, 1), (shape, 0, 2), (shape, 0, 3), (shape, 0, 4), (shape, 1, 1)]
            if shape[2] == 1:
                wanted += [(shape, 2, 1), (shape, 2, 2), (shape, 2, 3)]
        self.assertEqual(spots_of(style=style), tuple(wanted))

    def test_all_with_their_inside_numbers(self):
        for style in STYLES:
            wanted = [(shape, -1, 0) for shape in SHAPES]
            for shape in SHAPES:
                for at, token in enumerate(tokens(style, shape)):
                    wanted += [(shape, at, inside) for inside in range(1, GREATEST[token[0]] + 1)]
            self.assertEqual(spots_of(style), tuple(sorted(wanted)))

    def test_starts_alone(self):
        shapes = [spot[0] for spot in spots_of(EMPTY)]
        self.assertEqual([shapes.count(shape) for shape in SHAPES], [1, 1, 2, 2] * 3)

    def test_what_is_no_style(self):
        for value in ((), list(PLAIN), changed(PLAIN, 0, ())) + ODD:
            error = error_of(spots_of, value)
            self.assertIs(type(error), InvalidStyle)
            self.assertIs(error.value, value)


class TestSteps(unittest.TestCase):

    def test_every_spot_by_every_sign(self):
        for style in STYLES:
            for spot in spots_of(style):
                row = tokens(style, spot[0])
                for sign in SIGNS:
                    self.assertEqual(steps(style, spot, sign), told_steps(row, spot, sign))

    def test_steps_lead_to_spots(self):
        for style in STYLES:
            known = spots_of(style)
            for spot in known:
                for sign in "AaB. 019~":
                    self.assertLessEqual(set(steps(style, spot, sign)), set(known))

    def test_from_a_start(self):
        self.assertEqual(steps(PLAIN, ((2, 0, 0), -1, 0), "A"), (((2, 0, 0), 0, 1),))
        self.assertEqual(steps(PLAIN, ((2, 0, 0), -1, 0), "a"), ())
        self.assertEqual(steps(MIXED, ((2, 0, 0), -1, 0), "A"), (((2, 0, 0), 0, 1),))
        self.assertEqual(steps(MIXED, ((2, 0, 0), -1, 0), "B"), ())
        self.assertEqual(steps(EMPTY, ((1, 1, 0), -1, 0), "B"), (((1, 1, 0), 0, 1),))
        self.assertEqual(steps(EMPTY, ((1, 0, 0), -1, 0), "B"), ())

    def test_within_each_kind_of_token(self):
        shape = (2, 1, 1)
        for style, token, moves in (
            (TIGHT, ("family", 1), ((1, "z", 1), (1, "Z", None), (1, ".", None))),
            (TIGHT, ("given", 0), ((1, "Z", 1), (1, "z", None))),
            (DOTS, ("dotted", 0), ((1, ".", 2), (1, "A", None), (2, "A", 1), (2, ".", None), (1, "a", None))),
            (TIGHT, ("title",), ((1, "a", 1), (1, " ", 2), (2, "z", 1), (2, " ", None), (2, "A", None))),
            (TIGHT, ("place",), ((1, "a", 1), (1, " ", None))),
            (TIGHT, ("year",), ((1, "0", 2), (2, "9", 3), (3, "5", 4), (4, "5", None), (1, "a", None))),
            (TIGHT, ("volume",), ((1, "0", 2), (2, "9", 3), (3, "0", None))),
        ):
            for inside, sign, to in moves:
                spot = at_token(style, shape, token, inside)
                wanted = [(shape, spot[1], to)] if to else []
                found = [step for step in steps(style, spot, sign) if step[1] == spot[1]]
                self.assertEqual(found, wanted, (spot, sign))

    def test_into_the_next_token(self):
        shape = (1, 1, 1)
        for style, token, inside, sign in (
            (TIGHT, ("family", 0), 1, "K"), (TIGHT, ("title",), 1, "U"), (TIGHT, ("place",), 1, "2"),
            (TIGHT, ("year",), 4, "9"), (DOTS, ("dotted", 0), 2, "1"), (DOTS, ("volume",), 3, "1"),
            (DOTS, ("year",), 4, "A"), (MIXED, ("volume",), 3, "0"), (MIXED, ("title",), 1, "a"),
        ):
            spot = at_token(style, shape, token, inside)
            self.assertIn((shape, spot[1] + 1, 1), steps(style, spot, sign))

    def test_not_into_the_next_token_where_it_is_not_enough(self):
        shape = (1, 1, 1)
        for style, token, inside, sign in (
            (TIGHT, ("title",), 2, "U"), (TIGHT, ("year",), 3, "a"), (DOTS, ("dotted", 0), 1, "1"),
        ):
            self.assertEqual(steps(style, at_token(style, shape, token, inside), sign), ())
        for inside in (1, 2, 3):
            spot = at_token(TIGHT, shape, ("year",), inside)
            self.assertEqual(steps(TIGHT, spot, "9"), ((shape, spot[1], inside + 1),))

    def test_one_sign_may_lead_to_two_spots(self):
        shape = (2, 1, 1)
        for style, token, inside, sign, to in (
            (TIGHT, ("given", 0), 1, "E", 1), (MIXED, ("given", 0), 1, "B", 1), (MIXED, ("title",), 1, "a", 1),
            (DOTS, ("volume",), 1, "1", 2), (DOTS, ("volume",), 2, "2", 3), (MIXED, ("volume",), 1, "0", 2),
            (DOTS, ("dotted", 0), 2, "C", 1),
        ):
            spot = at_token(style, shape, token, inside)
            wanted = ((shape, spot[1], to), (shape, spot[1] + 1, 1))
            self.assertEqual(steps(style, spot, sign), wanted, (token, sign))

    def test_behind_the_last_token(self):
        shape = (1, 1, 1)
        spot = at_token(TIGHT, shape, ("volume",), 3)
        for sign in SIGNS:
            self.assertEqual(steps(TIGHT, spot, sign), ())
        self.assertEqual(steps(style=TIGHT, spot=changed(spot, 2, 1), sign="0"), (changed(spot, 2, 2),))

    def test_one_row_of_spots_reads_each_entry(self):
        for style in STYLES:
            for book in BOOKS:
                rows = [[(shape_of(book), -1, 0)]]
                for sign in set_entry(style, book):
                    rows = [row + [step] for row in rows for step in steps(style, row[-1], sign)]
                self.assertTrue(any(is_final(style, row[-1]) for row in rows))


class TestIsFinal(unittest.TestCase):

    def test_all_spots(self):
        for style in STYLES:
            for spot in spots_of(style):
                self.assertIs(is_final(style, spot), told_final(tokens(style, spot[0]), spot), spot)

    def test_by_kinds(self):
        for pieces, insides in (
            ((("volume",),), (1, 2, 3)), ((("year",),), (4,)), ((("title",),), (1,)), ((("place",),), (1,)),
            ((("mark", "a"),), (1,)), ((("names",),), (2,)),
        ):
            style = (pieces, ("behind", True, "", "", "", 1, ""))
            for spot in spots_of(style):
                if spot[0] == (1, 1, 1):
                    last = len(tokens(style, (1, 1, 1))) - 1
                    self.assertIs(is_final(style=style, spot=spot), spot[1] == last and spot[2] in insides)

    def test_a_start_of_a_shape_without_tokens(self):
        self.assertIs(is_final(EMPTY, ((1, 0, 1), -1, 0)), True)
        self.assertIs(is_final(EMPTY, ((1, 1, 1), -1, 0)), False)
        self.assertIs(is_final(PLAIN, ((1, 0, 1), -1, 0)), False)


class TestErrors(unittest.TestCase):

    def no_spots(self, style):
        shape = (2, 0, 1)
        row = tokens(style, shape)
        wrong = [
            (shape, -1, 1), (shape, -1, -1), (shape, -2, 0), (shape, -2, 1), (shape, -3, 1),
            (shape, 0, 0), (shape, len(row), 1), (shape, len(row), 0),
            (shape, -1), (shape, -1, 0, 0), [shape, -1, 0], ([2, 0, 1], -1, 0), ((0, 0, 0), -1, 0),
            ((4, 0, 0), 0, 1), ((1, 2, 0), -1, 0), (None, -1, 0), (shape, None, 0), (shape, "0", 1), (shape, 0, "1"),
            (shape, 0, None), (shape, (0,), 1), (shape, -1, ()), (shape, [0], [1]), (shape, 10 ** 5000, 1),
            (shape, 0, 10 ** 5000), (shape, 0, -1), shape, ((shape, -1, 0),), (), [],
        ]
        for at, token in enumerate(row):
            wrong += [(shape, at, 0), (shape, at, GREATEST[token[0]] + 1), (shape, at, -1), [shape, at, 1]]
        return wrong + list(ODD)

    def test_what_is_no_spot(self):
        for style in (PLAIN, CLEAR, TIGHT, MIXED, DOTS):
            for value in self.no_spots(style):
                for error in (error_of(steps, style, value, "A"), error_of(is_final, style, value)):
                    self.assertIs(type(error), Undefined)
                    self.assertEqual(error.what, "spot")

    def test_a_spot_of_another_shape_alone(self):
        row = tokens(CLEAR, (3, 1, 1))
        spot = ((3, 1, 1), len(row) - 1, 3)
        self.assertIs(is_final(CLEAR, spot), True)
        for shape in SHAPES[:-1]:
            self.assertIs(type(error_of(is_final, CLEAR, changed(spot, 0, shape))), Undefined)
            self.assertIs(type(error_of(steps, CLEAR, changed(spot, 0, shape), "1")), Undefined)

    def test_what_is_no_style(self):
        for value in ((), list(PLAIN), changed(PLAIN, 0, ())) + ODD:
            for spot in (((1, 0, 0), -1, 0), None, ((1, 0, 0), -1, 1)):
                for error in (error_of(steps, value, spot, "A"), error_of(is_final, value, spot)):
                    self.assertIs(type(error), InvalidStyle)
                    self.assertIs(error.value, value)


class TestPlaces(unittest.TestCase):

    def test_all_stand_in_their_module(self):
        for name in ("spots_of", "steps", "is_final"):
            self.assertEqual(getattr(spots, name).__module__, "ibidem.spots")


if __name__ == "__main__":
    unittest.main()
