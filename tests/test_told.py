"""Promise [23]: values told as texts, and read back."""

import itertools
import random
import unittest

from ibidem import told as module
from ibidem.errors import InvalidText
from ibidem.told import told, untold
from samples import BOOKS, CLEAR, LATIN, RAIN, TIGHT, error_of, nested
from retold import SIGNS

PAIRS = (
    (None, "-"), (True, "T"), (False, "F"), (0, "0"), (1, "1"), (-1, "-1"), (10, "10"), (-120, "-120"),
    (999999999999, "999999999999"), (-999999999999, "-999999999999"), ("", '""'), ("a b", '"a b"'),
    ("(,)-T", '"(,)-T"'), (" ", '" "'), ("~", '"~"'), ("0", '"0"'), ("|", '"|"'), ("\\", '"\\"'),
    ((), "()"), ((1,), "(1,)"), ((1, 2), "(1,2)"), ((1, 2, 3), "(1,2,3)"), (((),), "((),)"), (((), ()), "((),())"),
    (((1,),), "((1,),)"), ((None,), "(-,)"), ((None, -1), "(-,-1)"), ((True, False, 0), "(T,F,0)"),
    ((("a", ("b",)), ""), '(("a",("b",)),"")'),
    (RAIN, '((("Ash","J"),("Elm","KL")),2001,"On rain",-,-)'),
    (TIGHT, '((("names",),("title",),("place",),("year",),("volume",)),("behind",F,"","","",3,""))'),
)

# Texts that tell no value, with the place at which no text goes on like this.
WRONG = (
    ("", 0), (" ", 0), ("x", 0), ("t", 0), ("None", 0), (")", 0), (",", 0), ("\n", 0), ("+1", 0), ("[1]", 0),
    ("'a'", 0),
    ("--", 1), ("-T", 1), ("-0", 1), ("-01", 1), ("- 1", 1), ("-x", 1), ("00", 1), ("01", 1), ("007", 1), ("0x", 1),
    ("0-", 1), ("1 ", 1), ("1x", 1), ("12.", 2), ("1_0", 1), ("1,", 1), ("-1-", 2), ("TF", 1), ("T ", 1),
    ("FALSE", 1),
    ("1234567890123", 12), ("-1234567890123", 13), ("1000000000000", 12), ("10000000000000000", 12),
    ('"', 1), ('"a', 2), ('"a""', 3), ('"a"b"', 3), ('"a\n"', 2), ('"\u00e9"', 1), ('"\x7f"', 1), ('"\ud800"', 1),
    ("\u00e9", 0), ("\u0661", 0), ("1\u0661", 1), ("\u00b2", 0), ("1\u00b2", 1), ("-\u0661", 1),
    ("(", 1), ("((", 2), ("(,", 1), ("(,)", 1), ("( )", 1), ("() ", 2), ("())", 2), ("()()", 2), ("(1", 2),
    ("(1)", 2),
    ("(1,", 3), ("(1,,", 3), ("(1, 2)", 3), ("(1,2", 4), ("(1,2,)", 5), ("(1,2,", 5), ("(1,2,,", 5), ("(1 ,2)", 2),
    ("(1,)1", 4), ("(1,2),", 5), ("((1))", 3), ("((),)(", 5), ("(()", 3), ("((1,2)", 6), ("((1,2))", 6), ("(-0,)", 2),
    ("(-", 2), ("(-,", 3), ("(-)", 2), ("(00,)", 2), ("(-1", 3), ("(-1,-", 5), ("(-1,-0)", 5), ("(T,F", 4),
    ("(TF)", 2),
    ('("a)', 4), ('("a"', 4), ('("a",', 5), ('("a",b)', 5), ('("a" ,)', 4),
)


def wrong_at(text):
    """The first place at which no text goes on like this, None for the text of a value, told anew sign by sign."""
    commas, state, many = [], "value", 0
    for at, sign in enumerate(text):
        if state == "string":
            if sign not in SIGNS:
                return at
            state = "after" if sign == '"' else state
            continue
        if sign in "0123456789" and (state == "figures" and many < 12 or state == "minus" and sign != "0"):
            many = 1 if state == "minus" else many + 1
            state = "figures"
            continue
        if state in ("minus", "figures"):
            state = "after"
        if state == "after":
            if not commas or sign not in (",", ")") or sign == ")" and commas[-1] == 0:
                return at
            if sign == ",":
                commas[-1] += 1
                state = "comma"
            else:
                commas.pop()
        elif sign == ")" and (state == "open" or state == "comma" and commas[-1] == 1):
            commas.pop()
            state = "after"
        elif sign == "(" and len(commas) < 30:
            commas.append(0)
            state = "open"
        elif sign in '"-0TF123456789':
            many = 1
            state = {'"': "string", "-": "minus", "0": "after", "T": "after", "F": "after"}.get(sign, "figures")
        else:
            return at
    return None if not commas and state in ("after", "minus", "figures") else len(text)


def any_value(chance, depth):
    """Some value that can be told, of at most so many tuples within one another."""
    kind = chance.choice(("tuple", "tuple", "tuple", "number", "string", "word"))
    if kind == "tuple" and depth > 0:
        return tuple(any_value(chance, depth - 1) for _ in range(chance.choice((0, 1, 1, 2, 3))))
    if kind == "number":
        return chance.choice((-1, 1)) * chance.randrange(10 ** chance.randint(0, 12))
    if kind == "string":
        return "".join(chance.choices(SIGNS.replace('"', ""), k=chance.randint(0, 5)))
    return chance.choice((None, True, False, 0, 1))


def same(one, other):
    """Whether two values are equal and of the same kinds throughout."""
    if type(one) is not type(other) or one != other:
        return False
    return not isinstance(one, tuple) or all(map(same, one, other))


class TestTold(unittest.TestCase):

    def test_values_by_hand(self):
        for value, text in PAIRS:
            self.assertEqual(told(value), text)
            self.assertEqual(told(value=value), text)
            self.assertTrue(same(untold(text), value), text)
            self.assertTrue(same(untold(text=text), value), text)

    def test_books_styles_letters(self):
        for value in (BOOKS, *BOOKS, CLEAR, TIGHT, LATIN, ()):
            self.assertTrue(same(untold(told(value)), value))

    def test_any_values(self):
        chance = random.Random(1)
        for _ in range(4000):
            value = any_value(chance, 6)
            self.assertTrue(same(untold(told(value)), value))
            self.assertIsNone(wrong_at(told(value)))

    def test_unlike_values_have_unlike_texts(self):
        chance = random.Random(2)
        found = {}
        for _ in range(4000):
            value = any_value(chance, 2)
            self.assertTrue(same(found.setdefault(told(value), value), value))

    def test_each_sign_within_a_string(self):
        for sign in SIGNS.replace('"', ""):
            for value in (sign, "a" + sign, sign + "a", (sign,)):
                self.assertEqual(untold(told(value)), value)
        self.assertEqual(len(SIGNS), 95)


class TestUntold(unittest.TestCase):

    def assert_wrong(self, text, at):
        error = error_of(untold, text)
        self.assertIs(type(error), InvalidText, text)
        self.assertEqual((error.text, error.at), (text, at))

    def assert_like_told_anew(self, text):
        at = wrong_at(text)
        if at is None:
            self.assertEqual(told(untold(text)), text)
        else:
            self.assert_wrong(text, at)

    def test_wrong_texts(self):
        for text, at in WRONG:
            self.assert_wrong(text, at)
            self.assertEqual(wrong_at(text), at, text)

    def test_all_short_texts(self):
        for size in range(6):
            for signs in itertools.product('(),-01"T', repeat=size):
                self.assert_like_told_anew("".join(signs))
        for signs in itertools.product("(),-1", repeat=7):
            self.assert_like_told_anew("".join(signs))

    def test_all_beginnings_of_texts(self):
        for value, text in PAIRS:
            for end in range(len(text)):
                self.assert_like_told_anew(text[:end])

    def test_texts_with_something_wrong(self):
        chance = random.Random(3)
        wrong = 0
        for _ in range(6000):
            text = told(any_value(chance, 4))
            for _ in range(chance.randint(1, 2)):
                at = chance.randint(0, len(text))
                put = chance.choice('(),-019"TFa \n\u00e9') * chance.randint(0, 2)
                text = text[:at] + put + text[at + chance.randint(0, 2):]
            wrong += wrong_at(text) is not None
            self.assert_like_told_anew(text)
        self.assertGreater(wrong, 2000)

    def test_thirty_within_one_another(self):
        for depth in (1, 2, 29, 30):
            value = nested(depth, tuple)
            self.assertEqual(untold(told(value)), value)
            self.assertEqual(untold("(" * depth + '"a"' + ",)" * depth), nested_in(depth, "a"))
            self.assertEqual(told(nested_in(depth, None)), "(" * depth + "-" + ",)" * depth)
        self.assert_wrong("(" * 30 + "()" + ",)" * 30, 30)
        self.assert_wrong("(" * 31 + "1" + ",)" * 31, 30)
        self.assert_wrong("(" * 2000, 30)
        self.assert_wrong("(" * 30, 30)
        self.assert_wrong("(" * 30 + ")", 31)
        # It counts how many are within one another, not how many there are.
        many = "(" + ",".join([told(nested(29, tuple))] * 20) + ")"
        self.assertEqual(untold(many), (nested(29, tuple),) * 20)
        self.assert_wrong("((1,2)," + "(" * 30, 36)

    def test_twelve_figures(self):
        for figures in ("1" * 12, "9" * 12, "1" + "0" * 11):
            for ahead in ("", "-"):
                self.assertEqual(untold(ahead + figures), int(ahead + figures))
                self.assert_wrong(ahead + figures + "0", len(ahead) + 12)
                self.assert_wrong("(1," + ahead + figures + "0)", 3 + len(ahead) + 12)

    def test_long_texts(self):
        value = tuple("a" * 60 for _ in range(31))
        text = told(value)
        self.assertLessEqual(len(text), 2000)
        self.assertEqual(untold(text), value)
        for at in range(len(text)):
            self.assert_like_told_anew(text[:at])
        self.assertEqual(untold('"' + "a" * 1998 + '"'), "a" * 1998)
        self.assert_wrong('"' + "a" * 1999, 2000)


def nested_in(depth, value):
    for _ in range(depth):
        value = (value,)
    return value


class TestPlaces(unittest.TestCase):

    def test_all_stand_in_their_module(self):
        for name in ("told", "untold"):
            self.assertEqual(getattr(module, name).__module__, "ibidem.told")


if __name__ == "__main__":
    unittest.main()
