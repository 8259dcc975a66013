"""Promises [20] and [21]: manuscripts, their texts, and what they cite."""

import random
import re
import unittest

from ibidem import manuscripts
from ibidem.books import is_list
from ibidem.errors import InvalidList, InvalidParts, InvalidText, Undefined
from ibidem.manuscripts import cited, is_manuscript, read_text, renumbered, set_text, without_uncited
from ibidem.marks import labels
from lists import NO_LISTS, any_list
from retold import SIGNS
from samples import BOOKS, CLOUDS, FOG, ODD, RAIN, SNOW, STORMS, error_of

# The labels of BOOKS: Ash + 2001, Chall 1998a, Chall 1998b, Ash + 1000, Ash 2999.
WORDS, MORE = ("words", "See "), ("words", " and ")
ZERO, ONE, TWO = ("cite", (0,)), ("cite", (1,)), ("cite", (1, 2))

PAIRS = (
    ((), ""),
    ((WORDS,), "See "),
    ((("words", "]"),), "]"),
    ((("words", "ib. ; ]]"), ZERO), "ib. ; ]][Ash + 2001]"),
    ((ZERO,), "[Ash + 2001]"),
    ((WORDS, ZERO, MORE, TWO), "See [Ash + 2001] and [Chall 1998a; Chall 1998b]"),
    ((ZERO, ZERO), "[Ash + 2001][ib.]"),
    ((ZERO, MORE, ZERO), "[Ash + 2001] and [ib.]"),
    ((ZERO, ZERO, MORE, ZERO, ZERO), "[Ash + 2001][ib.] and [ib.][ib.]"),
    ((ZERO, ONE, ZERO), "[Ash + 2001][Chall 1998a][Ash + 2001]"),
    ((ZERO, ZERO, ONE, ONE, ZERO), "[Ash + 2001][ib.][Chall 1998a][ib.][Ash + 2001]"),
    ((TWO, ("cite", (2, 1)), ("cite", (2, 1))), "[Chall 1998a; Chall 1998b][Chall 1998b; Chall 1998a][ib.]"),
    ((TWO, ONE, ONE), "[Chall 1998a; Chall 1998b][Chall 1998a][ib.]"),
    (
        (("cite", (4, 3, 2, 1, 0)), ("words", ".")),
        "[Ash 2999; Ash + 1000; Chall 1998b; Chall 1998a; Ash + 2001].",
    ),
)

NO_PARTS = (
    None, (), [], "words", ("words",), ("words", ""), ("words", "["), ("words", "a[b"), ("words", "a\n"),
    ("words", "\u00e9"),
    ("words", "\x7f"), ("words", None), ("words", 1), ("words", ("a",)), ("words", "a", "b"), ["words", "a"],
    ("Words", "a"),
    ("cite",), ("cite", ()), ("cite", [0]), ("cite", 0), ("cite", "0"), ("cite", None), ("cite", (5,)),
    ("cite", (-1,)),
    ("cite", (0, 0)), ("cite", (0, 1, 0)), ("cite", (True,)), ("cite", (False,)), ("cite", (0, True)),
    ("cite", ("0",)),
    ("cite", (None,)), ("cite", ((0,),)), ("cite", ([0],)), ("cite", (0,), ()), ["cite", (0,)], ("cites", (0,)),
    (None, (0,)), (0, "a"), ((), "a"), ([], (0,)), ("cite", RAIN), ("cite", (RAIN,)), ("cite", (10 ** 5000,)),
    ("", "a"),
)


def wrong_manuscripts():
    """Values that are no manuscripts for BOOKS."""
    for part in NO_PARTS:
        yield (part,)
        yield (WORDS, ZERO, part)
        yield [part]
        if part != ():
            yield part
    for value in ODD:
        if value != ():
            yield value
        yield (value,)
        yield ("words", value)
        yield (("words", value), ("cite", value))
    yield from (
        (WORDS, WORDS), (WORDS, MORE), (ZERO, WORDS, MORE), (ZERO, WORDS, MORE, ZERO),
        (ZERO, WORDS, ZERO, WORDS, WORDS),
        [WORDS], [], [ZERO, WORDS],
    )


def any_manuscript(chance, books, most):
    """Some manuscript for the list, of at most so many parts."""
    found = []
    for _ in range(chance.randint(0, most)):
        if books and (chance.random() < 0.6 or found and found[-1][0] == "words"):
            again = [what for word, what in found if word == "cite"][-1:]
            numbers = tuple(chance.sample(range(len(books)), chance.randint(1, min(3, len(books)))))
            found.append(("cite", again[0] if again and chance.random() < 0.4 else numbers))
        elif not found or found[-1][0] == "cite":
            text = "".join(chance.choices(SIGNS.replace("[", "") + "]];;  ib.", k=chance.randint(1, 6)))
            found.append(("words", text))
    return tuple(found)


def told_text(books, manuscript):
    """The text of the manuscript, told anew."""
    texts, found = labels(books), []
    cites = [what for word, what in manuscript if word == "cite"]
    many = 0
    for word, what in manuscript:
        if word == "words":
            found.append(what)
        else:
            again = many > 0 and cites[many - 1] == what
            found.append("[ib.]" if again else f"[{'; '.join(texts[number] for number in what)}]")
            many += 1
    return "".join(found)


def wrong_at(books, text):
    """The place that read_text must tell, None for the text of a manuscript, told anew."""
    places = [at for at, sign in enumerate(text) if sign not in SIGNS]
    last = None
    for cite in re.finditer(r"\[([^\]]*)(\]|\Z)", text):
        words = cite[1].split("; ")
        known = set(words) <= set(labels(books)) and len(set(words)) == len(words)
        if not cite[2] or not (last if cite[1] == "ib." else known and words != last):
            places.append(cite.start())
            break
        last = last if cite[1] == "ib." else words
    return min(places, default=None)


class TestIsManuscript(unittest.TestCase):

    def test_manuscripts(self):
        for value, _ in PAIRS:
            self.assertIs(is_manuscript(BOOKS, value), True, value)
            self.assertIs(is_manuscript(books=BOOKS, value=value), True)

    def test_numbers_are_those_of_the_list(self):
        for many in range(len(BOOKS) + 1):
            for number in range(-1, len(BOOKS) + 2):
                self.assertIs(is_manuscript(BOOKS[:many], (("cite", (number,)),)), 0 <= number < many)
            self.assertIs(is_manuscript(BOOKS[:many], ()), True)
            self.assertIs(is_manuscript(BOOKS[:many], (WORDS,)), True)

    def test_each_sign_in_words(self):
        for code in (*range(200), 0x661, 0xd800, 0x2028):
            self.assertIs(is_manuscript((), (("words", chr(code)),)), chr(code) in SIGNS and chr(code) != "[")

    def test_any_value(self):
        for value in wrong_manuscripts():
            self.assertIs(is_manuscript(BOOKS, value), False, value)

    def test_what_is_no_list(self):
        for books in NO_LISTS + tuple(value for value in ODD if value != ()):
            for value in ((), None):
                for function in (is_manuscript, set_text, read_text, cited, renumbered, without_uncited):
                    if function is not read_text or value is not None:
                        more = (BOOKS,) if function is renumbered else ()
                        error = error_of(function, books, "" if function is read_text else value, *more)
                        self.assertIs(type(error), InvalidList)
                        self.assertIs(error.value, books)


class TestSetText(unittest.TestCase):

    def test_texts_by_hand(self):
        for value, text in PAIRS:
            self.assertEqual(set_text(BOOKS, value), text)
            self.assertEqual(set_text(books=BOOKS, manuscript=value), text)
            self.assertEqual(told_text(BOOKS, value), text)

    def test_labels_hang_on_the_list(self):
        self.assertEqual(set_text((CLOUDS,), (ZERO,)), "[Chall 1998]")
        self.assertEqual(set_text((CLOUDS, STORMS), (ZERO,)), "[Chall 1998a]")

    def test_what_is_no_manuscript(self):
        for value in wrong_manuscripts():
            for function, more in (
                (set_text, ()), (cited, ()), (renumbered, (BOOKS,)), (renumbered, ((),)), (without_uncited, ()),
            ):
                error = error_of(function, BOOKS, value, *more)
                self.assertIs(type(error), InvalidParts, value)
                self.assertIs(error.value, value)


class TestReadText(unittest.TestCase):

    def assert_wrong(self, books, text, at):
        error = error_of(read_text, books, text)
        self.assertIs(type(error), InvalidText, text)
        self.assertEqual((error.text, error.at), (text, at))

    def test_texts_by_hand(self):
        for value, text in PAIRS:
            self.assertEqual(read_text(BOOKS, text), value)
            self.assertEqual(read_text(books=BOOKS, text=text), value)

    def test_wrong_texts(self):
        for text, at in (
            ("[", 0), ("a[", 1), ("a[Ash 2999", 1), ("]a[", 2), ("[Ash 2999][", 10), ("[Ash 2999][ib.", 10),
            ("[[Ash 2999]", 0),
            ("[]", 0), ("[ ]", 0), ("a[]b", 1), ("[Ash 2001]", 0), ("[Chall 1998]", 0), ("[Chall 1998c]", 0),
            ("[ash 2999]", 0),
            ("[Ash 2999 ]", 0), ("[ Ash 2999]", 0), ("[Ash  2999]", 0), ("[Ash 2999;]", 0), ("[Ash 2999; ]", 0),
            ("[; Ash 2999]", 0), ("[Ash 2999;Chall 1998a]", 0), ("[Ash 2999;  Chall 1998a]", 0),
            ("[Ash 2999 ; Chall 1998a]", 0),
            ("[Ash 2999, Chall 1998a]", 0), ("[Ash 2999; ; Chall 1998a]", 0), ("[Ash 2999; ib.]", 0),
            ("[ib.; Ash 2999]", 0),
            ("[Ash 2999; Ash 2999]", 0), ("[Ash 2999; Chall 1998a; Ash 2999]", 0),
            ("[Ash 2999][Ash 2999; Ash 2999]", 10),
            ("[ib.]", 0), ("a[ib.]", 1), ("a [ib.][Ash 2999]", 2), ("[Ash 2999][ib]", 10), ("[Ash 2999][ ib.]", 10),
            ("[Ash 2999][Ib.]", 10), ("[Ash 2999][ib.;]", 10), ("[Ash 2999][ib.; ib.]", 10),
            ("[Ash 2999][Ash 2999]", 10), ("[Ash 2999] [Ash 2999]", 11), ("[Ash 2999][ib.][Ash 2999]", 15),
            ("[Ash 2999; Chall 1998a][Ash 2999; Chall 1998a]", 23),
            ("[Ash 2999; Chall 1998a][ib.][Ash 2999; Chall 1998a]", 28),
            ("\n", 0), ("a\n", 1), ("\u00e9", 0), ("a\x7f", 1), ("[Ash 2999]\n", 10), ("[Ash 2999]\u00e9[", 10),
            ("\t[", 0),
            ("[\n", 0), ("[\n]", 0), ("[Ash 2999\n]", 0), ("[Ash\n2999]", 0), ("a[Ash 2999]b\nc[", 12), ("a\n[x]", 1),
            ("a[x]\n", 1),
            ("[Ash 2999][x\n]", 10), ("[Ash 2999][ib.]\ud800", 15), ("[Ash\u00a02999]", 0), ("[Ash \u0662999]", 0),
        ):
            self.assert_wrong(BOOKS, text, at)
            self.assertEqual(wrong_at(BOOKS, text), at, text)

    def test_a_list_of_no_books(self):
        self.assertEqual(read_text((), ""), ())
        self.assertEqual(read_text((), "a]"), (("words", "a]"),))
        self.assert_wrong((), "a[Ash 2999]", 1)
        self.assert_wrong((), "[]", 0)

    def test_there_and_back(self):
        chance = random.Random(1)
        again = 0
        for _ in range(2000):
            books = any_list(chance, 8)
            value = any_manuscript(chance, books, 12)
            self.assertIs(is_manuscript(books, value), True)
            text = set_text(books, value)
            self.assertEqual(text, told_text(books, value))
            self.assertEqual(read_text(books, text), value)
            again += "[ib.]" in text
        self.assertGreater(again, 500)

    def test_back_and_there(self):
        chance = random.Random(2)
        both = [0, 0]
        for _ in range(6000):
            books = any_list(chance, 4)
            parts = ["[", "]", "; ", ";", " ", "ib.", "[ib.]", "[ib.]", "a", "\n", "a.", "\u00e9"]
            parts += 2 * [f"[{text}]" for text in labels(books)] + list(labels(books))
            parts += [f"[{text}; {chance.choice(labels(books))}]" for text in labels(books)]
            text = "".join(chance.choices(parts, k=chance.randint(0, 5)))
            at = wrong_at(books, text)
            both[at is None] += 1
            if at is None:
                value = read_text(books, text)
                self.assertIs(is_manuscript(books, value), True)
                self.assertEqual(set_text(books, value), text)
            else:
                self.assert_wrong(books, text, at)
        self.assertGreater(min(both), 1000)

    def test_texts_with_something_wrong(self):
        chance = random.Random(3)
        both = [0, 0]
        for _ in range(4000):
            books = any_list(chance, 6)
            text = set_text(books, any_manuscript(chance, books, 8))
            at = chance.randint(0, len(text))
            text = text[:at] + chance.choice(("", "[", "]", "; ", " ", "a", "\n")) + text[at + chance.randint(0, 1):]
            at = wrong_at(books, text)
            both[at is None] += 1
            if at is None:
                self.assertEqual(set_text(books, read_text(books, text)), text)
            else:
                self.assert_wrong(books, text, at)
        self.assertGreater(min(both), 1000)


class TestCited(unittest.TestCase):

    def test_cited(self):
        for value, wanted in (
            ((), ()), ((WORDS,), ()), ((ZERO,), (0,)), ((ZERO, ZERO), (0,)), ((TWO, WORDS, ZERO), (1, 2, 0)),
            ((("cite", (4, 1)), ("cite", (1, 0, 4)), ("cite", (3,))), (4, 1, 0, 3)),
            ((ONE, ("cite", (2, 1))), (1, 2)),
        ):
            self.assertEqual(cited(BOOKS, value), wanted)
            self.assertEqual(cited(books=BOOKS, manuscript=value), wanted)

    def test_renumbered(self):
        others = (FOG, RAIN, STORMS)
        for value, wanted in (
            ((), ()), ((WORDS,), (WORDS,)), ((ZERO,), (("cite", (1,)),)),
            ((("cite", (2, 0, 4)),), (("cite", (2, 1, 0)),)),
            ((("cite", (4,)), MORE, ("cite", (4,))), (ZERO, MORE, ZERO)),
        ):
            self.assertEqual(renumbered(BOOKS, value, others), wanted)
            self.assertEqual(renumbered(books=BOOKS, manuscript=value, others=others), wanted)
            self.assertIs(is_manuscript(others, wanted), True)
        for value in ((ONE,), (ZERO, WORDS, TWO), (("cite", (0, 2, 3)),)):
            error = error_of(renumbered, BOOKS, value, others)
            self.assertIs(type(error), Undefined)
            self.assertEqual(error.what, "book")
        self.assertEqual(renumbered(BOOKS, (WORDS,), ()), (WORDS,))

    def test_errors_in_their_sequence(self):
        for books, value, others, kind, kept in (
            (None, None, None, InvalidList, None), (BOOKS, None, [], InvalidList, []),
            (BOOKS, None, (RAIN, RAIN), InvalidList, (RAIN, RAIN)),
            (BOOKS, (("cite", (9,)),), (), InvalidParts, (("cite", (9,)),)),
            ((), (ZERO,), BOOKS, InvalidParts, (ZERO,)),
        ):
            error = error_of(renumbered, books, value, others)
            self.assertIs(type(error), kind)
            self.assertEqual(error.value, kept)
        self.assertIs(type(error_of(renumbered, BOOKS, (ZERO,), (CLOUDS,))), Undefined)
        for value in NO_LISTS:
            self.assertIs(error_of(renumbered, BOOKS, (ZERO,), value).value, value)

    def test_without_uncited(self):
        for value, wanted in (
            ((), ((), ())), ((WORDS,), ((), (WORDS,))), ((("cite", (3,)),), ((SNOW,), (ZERO,))),
            ((("cite", (4, 1)), WORDS, ("cite", (4,))), ((CLOUDS, FOG), (("cite", (1, 0)), WORDS, ONE))),
            ((ZERO, ("cite", (1, 2, 3, 4))), (BOOKS, (ZERO, ("cite", (1, 2, 3, 4))))),
        ):
            self.assertEqual(without_uncited(BOOKS, value), wanted)
            self.assertEqual(without_uncited(books=BOOKS, manuscript=value), wanted)

    def test_any_manuscripts(self):
        chance = random.Random(4)
        undefined = 0
        for _ in range(1500):
            books = any_list(chance, 6)
            value = any_manuscript(chance, books, 6)
            numbers = list(dict.fromkeys(number for word, what in value if word == "cite" for number in what))
            self.assertEqual(cited(books, value), tuple(numbers))
            kept, fewer = without_uncited(books, value)
            self.assertEqual(kept, tuple(book for at, book in enumerate(books) if at in numbers))
            self.assertEqual(fewer, renumbered(books, value, kept))
            self.assertTrue(is_list(kept) and is_manuscript(kept, fewer))
            self.assertEqual(renumbered(kept, fewer, books), value)
            self.assertEqual(without_uncited(kept, fewer), (kept, fewer))
            others = tuple(chance.sample(books, len(books) - chance.randint(0, min(1, len(books)))))
            if all(books[number] in others for number in numbers):
                found = renumbered(books, value, others)
                self.assertEqual(
                    [[others[number] for number in what] for word, what in found if word == "cite"],
                    [[books[number] for number in what] for word, what in value if word == "cite"],
                )
                self.assertEqual(renumbered(others, found, books), value)
            else:
                undefined += 1
                self.assertIs(type(error_of(renumbered, books, value, others)), Undefined)
        self.assertGreater(undefined, 200)


class TestLimits(unittest.TestCase):

    def test_twelve_parts_of_sixty_signs(self):
        books = BOOKS + tuple(RAIN[:1] + (year,) + RAIN[2:] for year in (2002, 2003, 2004))
        whole = tuple(range(8))
        words = ("words", "]; ib." * 10)
        value = (words, ("cite", whole), words, ("cite", whole[::-1])) * 3
        self.assertEqual((len(books), len(value), len(words[1])), (8, 12, 60))
        text = set_text(books, value)
        self.assertEqual(read_text(books, text), value)
        self.assertEqual(cited(books, value), whole)
        cites = (("cite", whole),) * 12
        self.assertEqual(set_text(books, cites), "[" + "; ".join(labels(books)) + "]" + "[ib.]" * 11)
        self.assertEqual(read_text(books, set_text(books, cites)), cites)

    def test_texts_of_two_thousand_signs(self):
        self.assertEqual(read_text(BOOKS, "a" * 2000), (("words", "a" * 2000),))
        text = "[Ash 2999]" + "[ib.]" * 398
        self.assertEqual(len(text), 2000)
        self.assertEqual(read_text(BOOKS, text), (("cite", (4,)),) * 399)
        self.assertEqual(error_of(read_text, BOOKS, "[Ash 2999]" + "[" * 1990).at, 10)


class TestPlaces(unittest.TestCase):

    def test_all_stand_in_their_module(self):
        for name in ("is_manuscript", "set_text", "read_text", "cited", "renumbered", "without_uncited"):
            self.assertEqual(getattr(manuscripts, name).__module__, "ibidem.manuscripts")


if __name__ == "__main__":
    unittest.main()
