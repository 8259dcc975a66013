"""Promises [7] to [9]: styles, their tokens and what they hide."""

import itertools
import re
import unittest

from ibidem import styles
from ibidem.books import SHAPES
from ibidem.errors import InvalidStyle, Undefined
from ibidem.styles import hidden, hides, is_style, tokens
from samples import CLEAR, ODD, PLAIN, RAIN, TIGHT, changed, error_of, nested

NAMES, YEAR, TITLE, PLACE, VOLUME = (("names",), ("year",), ("title",), ("place",), ("volume",))
FIELDS = (NAMES, YEAR, TITLE, PLACE, VOLUME)
DASH = ("mark", "-")
SHOWN = ("behind", True, ", ", "; ", " & ", 3, " +")

GIVEN, DOTTED, GAP, JOIN, LAST, MOST, REST = range(7)

NO_PIECES = (
    (), [], NAMES, (NAMES, ()), (NAMES, []), [NAMES, YEAR], (["names"],), (["mark", "-"],), "names", None,
    (DASH,) * 11, (NAMES, YEAR, TITLE, PLACE, VOLUME) + (DASH,) * 6, {},
    (("mark", ""),), (("mark", "----"),), (("mark", "\n"),), (("mark", "\u00e9"),), (("mark", "-\x7f"),),
    (("mark", "\x1f"),), (("mark", None),), (("mark", 1),), (("mark", ("-",)),), (("mark", ["-"]),),
    (("mark",),), (("mark", "-", "-"),), (("mark", "-", ()),), ((),),
    (("name",),), (("names", ""),), (("names", ()),), (("given",),), (("family", 0),), (("sign", "-"),),
    (("Year",),), (("year", 2001),), ((1,),), ((None,),), ((("year",),),), (("",),), ("year",),
    (("if",),), (("if", "place"),), (("if", "place", ()),), (("if", "place", (), (), ()),),
    (["if", "place", (), ()],), (("If", "place", (), ()),), (("unless", "place", (), ()),),
)
NO_FIELDS = ("year", "title", "names", "mark", "Place", "", None, True, 0, ("place",), ["place"], PLACE)
NO_CHOSEN = (
    [], [DASH], DASH, (DASH,) * 4, "", "-", None, True, 0, (["mark", "-"],), (("mark", ""),), (("mark", "----"),),
    (("mark", "\u00e9"),), (("dash",),), ((),), (("if", "volume", (), ()),), (("if", "place", (DASH,), (DASH,)),),
    (DASH, DASH, ("if", "volume", (), ())), (("names",), "year"),
)
NO_SHORT = (None, True, False, 0, 3, "\n", "\t", "-\n", "\u00e9", "\x7f", "\x1f", "\ud800", (), ("-",), ["-"], b"-")


def with_pieces(*pieces):
    return (pieces, SHOWN)


def with_shown(at, part):
    return ((NAMES, YEAR), changed(SHOWN, at, part))


def choice(field, there, lacking):
    return ("if", field, there, lacking)


class TestIsStyle(unittest.TestCase):

    def assert_style(self, value):
        self.assertIs(is_style(value), True, value)

    def assert_none(self, value):
        self.assertIs(is_style(value), False, value)

    def test_ordinary_styles(self):
        for style in (PLAIN, CLEAR, TIGHT):
            self.assert_style(style)
        self.assertIs(is_style(value=PLAIN), True)

    def test_one_piece_to_ten(self):
        for piece in FIELDS + (DASH, choice("place", (), ()), choice("volume", (), ())):
            self.assert_style(with_pieces(piece))
        for many in range(1, 11):
            self.assert_style(with_pieces(*[DASH] * many))
        self.assert_style(with_pieces(*FIELDS, *[DASH] * 5))
        for many in (0, 11, 12, 100):
            self.assert_none(with_pieces(*[DASH] * many))
        self.assert_none(with_pieces(*FIELDS, *[DASH] * 6))

    def test_pieces_in_a_choice_are_not_counted_among_the_ten(self):
        self.assert_style(with_pieces(*[choice("place", (DASH,) * 3, (DASH,) * 3)] * 10))
        self.assert_none(with_pieces(*[choice("place", (), ())] * 11))

    def test_marks(self):
        for text in (" ", "~", "a", "Z", "7", "   ", "a1 ", "%", "\"", "|", "abc", ". ", "ib."):
            self.assert_style(with_pieces(("mark", text)))
            self.assert_style(with_pieces(choice("volume", (("mark", text),), ())))

    def test_each_printable_sign_and_no_other_character(self):
        for code in range(0x180):
            value = with_pieces(("mark", chr(code)))
            self.assertIs(is_style(value), 32 <= code <= 126, code)

    def test_choices(self):
        sides = [(NAMES, YEAR, TITLE)[:many] for many in range(4)]
        for there, lacking in itertools.product(sides, repeat=2):
            for field in ("place", "volume"):
                self.assert_style(with_pieces(choice(field, there, lacking)))
        for piece in FIELDS + (DASH,):
            self.assert_style(with_pieces(choice("place", (piece,), ())))
            self.assert_style(with_pieces(choice("volume", (), (piece,))))

    def test_choices_that_are_none(self):
        for field in NO_FIELDS + ODD:
            self.assert_none(with_pieces(choice(field, (), ())))
        for side in NO_CHOSEN + (nested(20, tuple), nested(20, list)):
            self.assert_none(with_pieces(choice("place", side, ())))
            self.assert_none(with_pieces(choice("place", (), side)))

    def test_a_field_again_where_no_shape_has_both(self):
        for pieces in (
            (choice("place", (YEAR, TITLE), (TITLE, YEAR)),),
            (choice("place", (NAMES,), ()), choice("place", (), (NAMES,))),
            (PLACE, choice("place", (), (PLACE,))),
            (VOLUME, choice("volume", (DASH,), (VOLUME, VOLUME))),
            (choice("place", (), (PLACE, PLACE, PLACE)),),
            (choice("volume", (), (VOLUME,)), choice("volume", (VOLUME,), ()), choice("volume", (), (VOLUME,))),
            (choice("place", (VOLUME,), (DASH, VOLUME)),),
            (DASH, DASH, choice("place", (DASH, DASH, DASH), (DASH, DASH, DASH))),
        ):
            self.assert_style(with_pieces(*pieces))

    def test_a_field_again_for_a_shape(self):
        for piece in FIELDS:
            self.assert_none(with_pieces(piece, piece))
            self.assert_none(with_pieces(piece, DASH, DASH, piece))
            self.assert_none(with_pieces(choice("place", (piece, piece), ())))
            self.assert_none(with_pieces(piece, choice("place", (piece,), ())))
            self.assert_none(with_pieces(choice("volume", (piece,), ()), DASH, piece))
            self.assert_none(with_pieces(choice("volume", (piece,), ()), choice("place", (piece,), ())))
        for piece in (NAMES, YEAR, TITLE, VOLUME):
            self.assert_none(with_pieces(piece, choice("place", (), (piece,))))
            self.assert_none(with_pieces(choice("place", (), (piece, piece))))
        for piece in (NAMES, YEAR, TITLE):
            self.assert_none(with_pieces(choice("place", (piece,), ()), choice("volume", (), (piece,))))
        self.assert_none(with_pieces(PLACE, choice("volume", (), (PLACE,))))

    def test_pieces_that_are_none(self):
        for pieces in NO_PIECES + ODD:
            self.assert_none((pieces, SHOWN))
        for piece in ODD + ((), ("names",) * 2, ["year"], choice("place", (), ())[:3]):
            self.assert_none(with_pieces(piece))
            self.assert_none(with_pieces(DASH, piece, NAMES))
            if piece not in (" ", "?"):
                self.assert_none(with_pieces(("mark", piece)))

    def test_given(self):
        for given in ("ahead", "behind", "none"):
            self.assert_style(with_shown(GIVEN, given))
        for given in ("", "Ahead", "before", None, True, 0, ("ahead",), ["ahead"]) + ODD:
            self.assert_none(with_shown(GIVEN, given))

    def test_dotted(self):
        for dotted in (True, False):
            for given in ("ahead", "behind", "none"):
                self.assert_style(((NAMES,), changed(with_shown(DOTTED, dotted)[1], GIVEN, given)))
        for dotted in (0, 1, None, "", "True", (), (True,), [], [True]):
            self.assert_none(with_shown(DOTTED, dotted))

    def test_gap_join_last_and_rest(self):
        for at, most in ((GAP, 2), (JOIN, 3), (LAST, 3), (REST, 3)):
            for many in range(6):
                for sign in (" ", "~", "a", "Q", "0"):
                    self.assertIs(is_style(with_shown(at, sign * many)), many <= most)
            for text in NO_SHORT:
                self.assert_none(with_shown(at, text))

    def test_most(self):
        for most in (1, 2, 3):
            self.assert_style(with_shown(MOST, most))
        for most in (0, 4, -1, 10 ** 5000, True, False, None, "1", "3", (1,), [1], 1.0):
            self.assert_none(with_shown(MOST, most))

    def test_shown_of_another_length_or_kind(self):
        for shown in (SHOWN[:6], SHOWN + ("",), (), list(SHOWN), (SHOWN,), None, "behind") + ODD:
            self.assert_none(((NAMES,), shown))

    def test_what_is_no_pair(self):
        for value in ((), PLAIN[:1], PLAIN + ((),), list(PLAIN), (SHOWN, PLAIN[0]), (PLAIN,), [PLAIN], RAIN) + ODD:
            self.assert_none(value)

    def test_arguments_are_not_changed(self):
        value = [[["names"], ["mark", "-"]], list(SHOWN)]
        is_style(value)
        is_style((value[0], tuple(SHOWN)))
        self.assertEqual(value, [[["names"], ["mark", "-"]], list(SHOWN)])


def read_tokens(text):
    """Tokens told in short: <F0>, <G0> and <D0> of a name, <Y>, <T>, <P>, <V>, signs as they are."""
    long = {"F": "family", "G": "given", "D": "dotted", "Y": "year", "T": "title", "P": "place", "V": "volume"}
    found = []
    for letter, number, sign in re.findall(r"<([FGDYTPV])([0-9]?)>|(.)", text):
        if sign:
            found.append(("sign", sign))
        else:
            found.append((long[letter], int(number)) if number else (long[letter],))
    return tuple(found)


# By given and dotted: the name numbered 0 with the gap "~".
NAME_FORMS = {
    ("ahead", True): "<D0>~<F0>", ("ahead", False): "<G0>~<F0>",
    ("behind", True): "<F0>~<D0>", ("behind", False): "<F0>~<G0>",
    ("none", True): "<F0>", ("none", False): "<F0>",
}

# By most and how many names: what stands between and behind names 0, 1 and 2.
NAME_ROWS = {
    (1, 1): "0", (1, 2): "0 et", (1, 3): "0 et",
    (2, 1): "0", (2, 2): "0 & 1", (2, 3): "0; 1 et",
    (3, 1): "0", (3, 2): "0 & 1", (3, 3): "0; 1 & 2",
}


def names_told(given, dotted, most, many):
    form = NAME_FORMS[given, dotted]
    return re.sub("[012]", lambda found: form.replace("0", found[0]), NAME_ROWS[most, many])


class TestTokens(unittest.TestCase):

    def test_names_of_all_shapes(self):
        for (given, dotted), most in itertools.product(NAME_FORMS, (1, 2, 3)):
            style = ((NAMES,), (given, dotted, "~", "; ", " & ", most, " et"))
            for shape in SHAPES:
                wanted = read_tokens(names_told(given, dotted, most, shape[0]))
                self.assertEqual(tokens(style, shape), wanted, (style, shape))

    def test_all_fields_of_all_shapes(self):
        for shape in SHAPES:
            many, placed, counted = shape
            wanted = names_told("behind", True, 3, many).replace("~", ", ").replace(" et", " +")
            wanted += " (<Y>) <T>" + ": <P>" * placed + (", v<V>" if counted else ".")
            self.assertEqual(tokens(CLEAR, shape), read_tokens(wanted), shape)

    def test_place_and_volume_without_a_choice(self):
        style = ((VOLUME, DASH, PLACE, DASH, TITLE, YEAR), SHOWN)
        for shape in SHAPES:
            wanted = "<V>" * shape[2] + "-" + "<P>" * shape[1] + "-<T><Y>"
            self.assertEqual(tokens(style, shape), read_tokens(wanted))

    def test_a_choice_by_the_other_field(self):
        style = with_pieces(
            choice("place", (VOLUME, ("mark", "ab")), (("mark", "c"), YEAR)),
            choice("volume", (PLACE,), (TITLE, ("mark", "def"), PLACE)),
        )
        self.assertTrue(is_style(style))
        for many in (1, 2, 3):
            self.assertEqual(tokens(style, (many, 0, 0)), read_tokens("c<Y><T>def"))
            self.assertEqual(tokens(style, (many, 0, 1)), read_tokens("c<Y>"))
            self.assertEqual(tokens(style, (many, 1, 0)), read_tokens("ab<T>def<P>"))
            self.assertEqual(tokens(style, (many, 1, 1)), read_tokens("<V>ab<P>"))

    def test_a_choice_without_its_own_field(self):
        style = with_pieces(choice("place", (DASH,), (PLACE, YEAR)))
        self.assertEqual(tokens(style, (1, 1, 0)), read_tokens("-"))
        self.assertEqual(tokens(style, (1, 0, 0)), read_tokens("<Y>"))

    def test_names_in_a_choice(self):
        style = with_pieces(choice("volume", (NAMES,), (YEAR, NAMES)), DASH)
        self.assertEqual(tokens(style, (2, 0, 1)), read_tokens("<F0>, <D0> & <F1>, <D1>-"))
        self.assertEqual(tokens(style, (1, 0, 0)), read_tokens("<Y><F0>, <D0>-"))

    def test_empty_gap_join_last_and_rest(self):
        for most, wanted in ((1, "<F0><G0>"), (2, "<F0><G0><F1><G1>"), (3, "<F0><G0><F1><G1><F2><G2>")):
            style = ((NAMES,), ("behind", False, "", "", "", most, ""))
            self.assertEqual(tokens(style, (3, 0, 0)), read_tokens(wanted))

    def test_a_shape_without_tokens(self):
        style = with_pieces(PLACE)
        self.assertEqual(tokens(style, (1, 0, 1)), ())
        self.assertEqual(tokens(style, (1, 1, 1)), (("place",),))

    def test_each_mark_is_a_token_a_sign(self):
        style = with_pieces(("mark", " a1"), ("mark", "<>"))
        self.assertEqual(
            tokens(style=style, shape=(1, 0, 0)),
            (("sign", " "), ("sign", "a"), ("sign", "1"), ("sign", "<"), ("sign", ">")),
        )

    def test_tokens_are_tuples(self):
        for shape in SHAPES:
            found = tokens(CLEAR, shape)
            self.assertIs(type(found), tuple)
            self.assertEqual({type(token) for token in found}, {tuple})

    def test_what_is_no_shape(self):
        wrong = (
            (0, 0, 0), (4, 0, 0), (1, 2, 0), (1, 0, 2), (1, -1, 0), (1, 0), (1, 0, 0, 0), [1, 0, 0],
            (1, None, 0), ("1", 0, 0), ((1, 0, 0),), "shape", {}, SHAPES, RAIN,
        )
        for value in wrong + ODD:
            error = error_of(tokens, PLAIN, value)
            self.assertIs(type(error), Undefined)
            self.assertEqual(error.what, "shape")

    def test_what_is_no_style(self):
        for value in ((), list(PLAIN), with_shown(MOST, True), with_pieces(NAMES, NAMES)) + ODD:
            for shape in ((1, 0, 0), (0, 0, 0), None):
                error = error_of(tokens, value, shape)
                self.assertIs(type(error), InvalidStyle)
                self.assertIs(error.value, value)


class TestHidden(unittest.TestCase):

    def test_styles_that_show_all(self):
        for style in (CLEAR, TIGHT):
            self.assertEqual(hidden(style), ())
            self.assertIs(hides(style), False)
        for given, dotted in (("ahead", True), ("ahead", False), ("behind", True), ("behind", False)):
            style = (FIELDS, (given, dotted, "", "", "", 3, ""))
            self.assertEqual(hidden(style), ())

    def test_a_style_that_shows_nothing_tells_all_in_sequence(self):
        found = hidden(with_pieces(DASH))
        wanted = []
        for shape in SHAPES:
            told = "".join(f"<F{i}><G{i}>" for i in range(shape[0])) + "<Y><T>" + "<P>" * shape[1] + "<V>" * shape[2]
            wanted += [(shape, what) for what in read_tokens(told)]
        self.assertEqual(found, tuple(wanted))
        self.assertEqual(len(found), 12 * (4 + 2 + 1))
        self.assertIs(hides(with_pieces(DASH)), True)

    def test_a_field_that_is_lacking(self):
        for field in (YEAR, TITLE):
            style = with_pieces(*[piece for piece in FIELDS if piece != field])
            self.assertEqual(hidden(style), tuple((shape, field) for shape in SHAPES))
        style = with_pieces(NAMES, YEAR, TITLE, VOLUME)
        self.assertEqual(hidden(style), tuple((shape, PLACE) for shape in SHAPES if shape[1] == 1))
        style = with_pieces(NAMES, YEAR, TITLE, PLACE)
        self.assertEqual(hidden(style), tuple((shape, VOLUME) for shape in SHAPES if shape[2] == 1))
        self.assertEqual(hidden(style=PLAIN)[:4], (
            ((1, 0, 1), VOLUME), ((1, 1, 0), PLACE), ((1, 1, 1), PLACE), ((1, 1, 1), VOLUME),
        ))
        self.assertEqual(len(hidden(PLAIN)), 12)
        self.assertIs(hides(PLAIN), True)

    def test_a_field_shown_for_some_shapes_alone(self):
        style = with_pieces(NAMES, YEAR, PLACE, VOLUME, choice("place", (TITLE,), ()))
        self.assertEqual(hidden(style), tuple((shape, TITLE) for shape in SHAPES if shape[1] == 0))
        style = with_pieces(NAMES, YEAR, TITLE, VOLUME, choice("volume", (PLACE,), ()))
        self.assertEqual(hidden(style), tuple((shape, PLACE) for shape in SHAPES if shape[1:] == (1, 0)))
        style = with_pieces(NAMES, YEAR, TITLE, VOLUME, choice("place", (), (PLACE,)))
        self.assertEqual(hidden(style), tuple((shape, PLACE) for shape in SHAPES if shape[1] == 1))
        style = with_pieces(NAMES, YEAR, TITLE, choice("place", (VOLUME, PLACE), (VOLUME,)))
        self.assertEqual(hidden(style), ())

    def test_fewer_names(self):
        style = (FIELDS, changed(SHOWN, MOST, 2))
        wanted = [(shape, what) for shape in SHAPES if shape[0] == 3 for what in (("family", 2), ("given", 2))]
        self.assertEqual(hidden(style), tuple(wanted))
        style = (FIELDS, changed(SHOWN, MOST, 1))
        wanted = [
            (shape, what) for shape in SHAPES for number in range(1, shape[0])
            for what in (("family", number), ("given", number))
        ]
        self.assertEqual(hidden(style), tuple(wanted))
        self.assertIs(hides(style=style), True)

    def test_no_givens(self):
        style = (FIELDS, ("none", True, "", "", "", 3, ""))
        wanted = [(shape, ("given", number)) for shape in SHAPES for number in range(shape[0])]
        self.assertEqual(hidden(style), tuple(wanted))
        style = (FIELDS, ("none", False, "", "", "", 2, ""))
        self.assertEqual([what for shape, what in hidden(style) if shape == (3, 1, 1)], [
            ("given", 0), ("given", 1), ("family", 2), ("given", 2),
        ])

    def test_marks_show_nothing(self):
        style = (FIELDS[1:] + (("mark", "Ash"),), SHOWN)
        self.assertEqual(len(hidden(style)), 4 * (2 + 4 + 6))

    def test_what_is_no_style(self):
        for value in ((), list(PLAIN), with_shown(DOTTED, 1), with_pieces(YEAR, YEAR)) + ODD:
            for function in (hidden, hides):
                error = error_of(function, value)
                self.assertIs(type(error), InvalidStyle)
                self.assertIs(error.value, value)


class TestPlaces(unittest.TestCase):

    def test_all_stand_in_their_module(self):
        for name in ("is_style", "tokens", "hidden", "hides"):
            self.assertEqual(getattr(styles, name).__module__, "ibidem.styles")


if __name__ == "__main__":
    unittest.main()
