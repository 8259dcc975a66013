"""Promise [24]: a desk, its lines and their faults, undo and redo, and replayed."""

import random
import unittest

from ibidem import desk as module
from ibidem.apart import is_apart
from ibidem.desk import Desk, replayed
from ibidem.errors import (
    CiteError, InvalidLetters, InvalidLine, InvalidNumber, InvalidStyle, InvalidText, NothingToUndo, Undefined,
)
from ibidem.marks import labels
from ibidem.setting import set_list
from ibidem.shelving import ordered
from ibidem.styles import hides
from ibidem.told import told, untold
from lists import book, has_room
from samples import (
    BOOKS, CLEAR, CLOUDS, FOG, LATIN, NO_LETTERS, ODD, PLAIN, RAIN, SNOW, SPANISH, STORMS, TIGHT, error_of,
)
from small import RUNNING

STYLES = (CLEAR, TIGHT, PLAIN, RUNNING[2])
ASHES = tuple(book(2001, "Ash J", title=title) for title in "ABCD")
ELMS = tuple(book(2001, "Ash J", f"Elm {sign}") for sign in "KLM")
POOL = BOOKS + ASHES + ELMS + (book(2001, "Ash K"), book(2002, "Ash J"))

# Lines of no form, with the place of what is wrong.
WRONG = (
    (None, 0), (0, 0), (True, 0), ((), 0), (["show"], 0), (("show",), 0), ("", 0), (" ", 0), (" show", 0),
    ("Show", 0), ("shows", 0),
    ("ADD", 0), ("show\n", 0), ("undo\t1", 0), ("label", 0), ("add\u00a01", 0), ("drop0", 0), ("drop-1", 0), ("-", 0),
    ("deed 1", 0), ("run show", 0),
    ("undo ", 4), ("undo 1", 4), ("redo ", 4), ("redo undo", 4), ("show ", 4), ("show 1", 4), ("show  ", 4),
    ("labels ", 6), ("labels 0", 6),
    ("add", 3), ("add ", 4), ("drop", 4), ("drop ", 5), ("style", 5), ("style ", 6), ("read", 4), ("read ", 5),
    ("change", 6), ("change ", 7), ("change 0", 8), ("change 0 ", 9), ("change 12", 9), ("change 12 ", 10),
    ("change 123456789012", 19),
    ("add  ", 4), ("add 0", 4), ("add -", 4), ("add T", 4), ("add ()", 4), ('add "Ash"', 4), ("add Ash", 4),
    ("add (", 4),
    ("drop 0 ", 5), ("drop 007", 5), ("drop 00", 5), ("drop -1", 5), ("drop -0", 5), ("drop 1234567890123", 5),
    ("drop  0", 5), ("drop x", 5),
    ("drop 0x", 5), ("drop 0 0", 5), ("drop 0,", 5), ("drop -", 5), ("drop T", 5), ("drop F", 5), ('drop "0"', 5),
    ("drop (0,)", 5), ("drop ()", 5),
    ("drop +1", 5), ("drop 1.0", 5), ("drop \u0661", 5), ("drop 0\n", 5), ("drop 1_0", 5),
    ("change 0x", 7), ("change  0", 7), ("change   0", 7), ("change x", 7), ("change x y", 7), ("change 00", 7),
    ("change 007 ()", 7), ("change -1 ()", 7),
    ("change - ()", 7), ("change T ()", 7), ('change "0" ()', 7), ("change () 0", 7), ("change 1234567890123 ()", 7),
    ("change 0,0", 7), ("change 0()", 7),
    ("change 0\n()", 7), ("change (0,) 0", 7), ('change "0 1"', 7),
    ("change 0  ", 9), ("change 0 0", 9), ("change 0 x", 9), ("change 0 ()", 9), ("change 0 -", 9),
    ("change 123 ()", 11), ("change 10 0 0", 10),
    ("style 0", 6), ("style -", 6), ("style ()", 6), ('style "apart"', 6), ("style apart", 6), ("style  ", 6),
    ("read x", 5), ("read 0", 5), ("read -", 5), ("read ()", 5), ('read "', 5), ('read "a', 5), ('read "a"b', 5),
    ('read "a" ', 5), ('read "a" "b"', 5),
    ('read  "a"', 5), ('read "a\n"', 5), ('read "\u00e9"', 5), ('read ("a",)', 5),
)


def add(one):
    return "add " + told(one)


def change(number, one):
    return f"change {number} {told(one)}"


def desk_of(books=(), style=CLEAR, letters=LATIN):
    """A desk with these books."""
    return replayed(style, letters, [add(one) for one in books])


def held(desk):
    """What a desk holds and answers."""
    return (desk.books, desk.style, desk.lines, desk.run("show"), desk.run("labels"), tried(desk, 'read "A1000|A|"'))


def tried(desk, line):
    """What the line answers, or the error that it raises."""
    try:
        return desk.run(line)
    except CiteError as error:
        return (type(error).__name__, vars(error))


def reading(text):
    """The line that reads the text, which has line feeds."""
    return f'read "{text}"'.replace("\n", "|")


def apart_or_mixed(style):
    return "apart" if is_apart(style) else "mixed"


def relabelled(books, others):
    """How many books of both lists have unlike labels, told anew."""
    before, after = dict(zip(books, labels(books))), dict(zip(others, labels(others)))
    return str(len([one for one in before if one in after and before[one] != after[one]]))


class TestNew(unittest.TestCase):

    def test_a_new_desk(self):
        for desk in (
            Desk(CLEAR, LATIN), Desk(style=CLEAR, letters=LATIN), replayed(CLEAR, LATIN, ()),
            replayed(style=CLEAR, letters=LATIN, lines=[]),
        ):
            self.assertEqual((desk.books, desk.style, desk.lines), ((), CLEAR, ()))
            self.assertEqual((desk.run("show"), desk.run("labels"), desk.run('read ""')), ("", "", "()"))
            for word in ("undo", "redo"):
                error = error_of(desk.run, word)
                self.assertIs(type(error), NothingToUndo)
                self.assertEqual(error.word, word)

    def test_what_is_no_style_and_no_letters(self):
        for function, more in ((Desk, ()), (replayed, ((),)), (replayed, (["x"],))):
            for value in ODD + (None, list(CLEAR), RAIN):
                for letters in (LATIN, None):
                    error = error_of(function, value, letters, *more)
                    self.assertIs(type(error), InvalidStyle)
                    self.assertIs(error.value, value)
            for value in NO_LETTERS:
                error = error_of(function, CLEAR, value, *more)
                self.assertIs(type(error), InvalidLetters)
                self.assertIs(error.value, value)


class TestDeeds(unittest.TestCase):

    def test_add(self):
        desk = Desk(CLEAR, LATIN)
        texts = ("Ash + 2001", "Chall 1998", "Chall 1998b", "Ash + 1000", "Ash 2999")
        for at, (one, wanted) in enumerate(zip(BOOKS, texts)):
            self.assertEqual(desk.run(line=add(one)), wanted)
            self.assertEqual(desk.books, BOOKS[:at + 1])
            self.assertEqual(desk.lines, tuple(map(add, BOOKS[:at + 1])))

    def test_drop(self):
        for books, number, wanted in (
            ((RAIN,), 0, "0"), ((CLOUDS, STORMS), 0, "1"), ((CLOUDS, STORMS), 1, "1"), (BOOKS, 0, "0"),
            (BOOKS, 1, "1"), (BOOKS, 4, "0"),
            (ASHES, 0, "3"), (ASHES, 1, "2"), (ASHES, 3, "0"), (ASHES[:1] + POOL[-2:-1] + ASHES[1:], 1, "0"),
            ((POOL[-2],) + ASHES, 0, "4"), (POOL[9:12], 0, "1"), (POOL[9:12], 1, "0"), (POOL[9:12], 2, "1"),
        ):
            desk = desk_of(books)
            self.assertEqual(desk.run(f"drop {number}"), wanted, (books, number))
            self.assertEqual(desk.books, books[:number] + books[number + 1:])
            self.assertEqual(relabelled(books, desk.books), wanted)

    def test_change(self):
        for books, number, one, wanted in (
            ((RAIN,), 0, FOG, "0"), ((RAIN,), 0, RAIN, "0"), ((CLOUDS, STORMS), 0, RAIN, "1"),
            ((CLOUDS, STORMS), 0, CLOUDS, "0"),
            ((CLOUDS, RAIN), 1, STORMS, "1"), (ASHES, 1, RAIN, "2"), (ASHES, 1, ASHES[1], "0"),
            (ASHES[:3], 1, ASHES[3], "0"),
        ):
            desk = desk_of(books)
            self.assertEqual(desk.run(change(number, one)), wanted)
            self.assertEqual(desk.books, books[:number] + (one,) + books[number + 1:])
            self.assertEqual(desk.lines[-1], change(number, one))
            self.assertEqual(len(desk.lines), len(books) + 1)

    def test_style(self):
        desk = desk_of(BOOKS)
        for style in STYLES + (CLEAR, CLEAR):
            self.assertEqual(desk.run("style " + told(style)), apart_or_mixed(style))
            self.assertEqual(desk.style, style)
            self.assertEqual(desk.run("show"), set_list(style, BOOKS, LATIN))
        self.assertEqual(len(desk.lines), len(BOOKS) + 6)
        self.assertEqual(desk.books, BOOKS)

    def test_deeds_that_change_nothing_are_deeds(self):
        desk = desk_of((RAIN,))
        desk.run("style " + told(CLEAR))
        desk.run(change(0, RAIN))
        self.assertEqual(desk.lines, (add(RAIN), "style " + told(CLEAR), change(0, RAIN)))
        desk.run("undo")
        self.assertEqual(desk.lines, (add(RAIN), "style " + told(CLEAR)))
        desk.run("style " + told(CLEAR))
        self.assertIs(type(error_of(desk.run, "redo")), NothingToUndo)

    def test_a_book_that_is_there(self):
        desk = desk_of((RAIN, FOG))
        for line in (add(RAIN), add(FOG), change(0, FOG), change(1, RAIN)):
            before = held(desk)
            error = error_of(desk.run, line)
            self.assertIs(type(error), Undefined)
            self.assertEqual(error.what, "book")
            self.assertEqual(held(desk), before)

    def test_eight_books(self):
        desk = desk_of(POOL[:8])
        self.assertEqual(len(desk.books), 8)
        for one in (POOL[8], POOL[0]):
            error = error_of(desk.run, add(one))
            self.assertIs(type(error), Undefined)
            self.assertEqual(error.what, "book")
        self.assertEqual(desk.run(change(3, POOL[8])), relabelled(POOL[:8], desk.books))
        self.assertEqual(desk.run("drop 0"), relabelled(POOL[:3] + (POOL[8],) + POOL[4:8], desk.books))
        desk.run(add(POOL[9]))
        self.assertEqual(len(desk.books), 8)


class TestQuestions(unittest.TestCase):

    def test_show_and_labels(self):
        for letters in (LATIN, SPANISH):
            for style in STYLES:
                desk = desk_of(BOOKS, style, letters)
                self.assertEqual(desk.run("show"), set_list(style, BOOKS, letters))
                self.assertEqual(desk.run("labels"), "Ash + 2001\nChall 1998a\nChall 1998b\nAsh + 1000\nAsh 2999\n")
        cot, chall = book(1000, "Cot A"), book(1000, "Chall A")
        self.assertEqual(desk_of((cot, chall), CLEAR, LATIN).run("show"), "Chall, A. (1000) A.\nCot, A. (1000) A.\n")
        self.assertEqual(desk_of((cot, chall), CLEAR, SPANISH).run("show"), "Cot, A. (1000) A.\nChall, A. (1000) A.\n")

    def test_read(self):
        desk = desk_of(BOOKS)
        self.assertEqual(untold(desk.run(reading(desk.run("show")))), ordered(BOOKS, LATIN))
        self.assertEqual(Desk(CLEAR, LATIN).run('read "Ash, J. (2999) F, v999|"'), '(((("Ash","J"),),2999,"F",-,999),)')
        self.assertEqual(desk.run('read ""'), "()")
        fog = "Ash, J. (2999) F, v999"
        for text, at in (("x", 0), ("|", 0), (fog, 0), (f"{fog}|x|", 23), (f"{fog}|{fog}|", 23), (f"{fog}||", 23)):
            error = error_of(desk.run, f'read "{text}"')
            self.assertIs(type(error), InvalidText)
            self.assertEqual((error.text, error.at), (text.replace("|", "\n"), at))
        error = error_of(desk_of((), PLAIN).run, 'read ""')
        self.assertIs(type(error), Undefined)
        self.assertEqual(error.what, "hidden")
        self.assertEqual(error_of(desk_of((), TIGHT).run, 'read "ABCD1999|"').at, 0)

    def test_questions_change_nothing(self):
        desk = desk_of(BOOKS)
        desk.run("drop 1")
        desk.run("undo")
        for line in ("show", "labels", 'read "x"', reading(desk.run("show")), "drop 9", "add 1"):
            tried(desk, line)
            self.assertEqual((desk.books, desk.style, desk.lines), (BOOKS, CLEAR, tuple(map(add, BOOKS))))
        self.assertEqual(desk.run("redo"), "")
        self.assertEqual(desk.books, BOOKS[:1] + BOOKS[2:])


class TestWrongLines(unittest.TestCase):

    def assert_wrong(self, desk, line, at):
        before = held(desk)
        error = error_of(desk.run, line)
        self.assertIs(type(error), InvalidLine, line)
        self.assertIs(error.line, line)
        self.assertEqual(error.at, at, line)
        self.assertEqual(held(desk), before)

    def test_lines_of_no_form(self):
        for desk in (Desk(CLEAR, LATIN), desk_of(BOOKS), desk_of(POOL[:8], TIGHT)):
            for line, at in WRONG:
                self.assert_wrong(desk, line, at)
        for value in ODD:
            self.assert_wrong(desk, value, 0)

    def test_values_with_something_ahead_or_behind(self):
        desk = desk_of((RAIN,))
        for word, value, at in (("add", FOG, 4), ("change 0", FOG, 9), ("style", TIGHT, 6), ("read", "", 5)):
            text = told(value)
            for line in (
                f"{word}  {text}", f"{word} {text} ", f"{word} {text}x", f"{word} {text},", f"{word} {text}{text}",
                f"{word} {text} {text}",
                f"{word} {text[:-1]}", f"{word} ({text},)", f"{word} {text}\n",
            ):
                self.assert_wrong(desk, line, at)
            self.assert_wrong(desk, word, at - 1)
            self.assert_wrong(desk, word + " ", at)
        self.assert_wrong(desk, "add" + told(FOG), 0)
        self.assert_wrong(desk, "change 0" + told(FOG), 7)
        self.assert_wrong(desk, "change " + told(FOG), 7)
        self.assert_wrong(desk, "change " + told(FOG) + " 0", 7)
        self.assert_wrong(desk, "change 0 0 " + told(FOG), 9)

    def test_values_of_another_kind(self):
        desk = desk_of((RAIN,))
        values = (
            CLEAR, FOG, (FOG,), (), LATIN, 0, -1, None, True, False, "", "Ash", FOG[:4], (FOG[0], 999, *FOG[2:]),
            (CLEAR[0], ()), (*FOG[:4], True),
        )
        for word, at, kinds in (
            ("add", 4, (FOG,)), ("change 0", 9, (FOG,)), ("style", 6, (CLEAR,)), ("read", 5, ("", "Ash")),
            ("drop", 5, (0,)),
        ):
            for value in values:
                if not any(value is kind for kind in kinds):
                    self.assert_wrong(desk, f"{word} {told(value)}", at)

    def test_numbers_of_no_book(self):
        for books in ((), (RAIN,), BOOKS):
            desk = desk_of(books)
            before = held(desk)
            for number in (len(books), len(books) + 1, 100, 999999999999):
                for line in (f"drop {number}", change(number, FOG), change(number, SNOW), change(number, RAIN)):
                    error = error_of(desk.run, line)
                    self.assertIs(type(error), InvalidNumber)
                    self.assertEqual(error.value, number)
                    self.assertEqual(held(desk), before)

    def test_errors_in_their_sequence(self):
        desk = desk_of((RAIN, FOG))
        self.assert_wrong(desk, "change 9 x", 9)
        self.assert_wrong(desk, "change 9", 8)
        self.assertIs(type(error_of(desk.run, change(9, RAIN))), InvalidNumber)
        self.assertIs(type(error_of(desk.run, change(0, FOG))), Undefined)


class TestUndo(unittest.TestCase):

    def test_back_and_forth(self):
        desk = Desk(CLEAR, LATIN)
        tight = "style " + told(TIGHT)
        lines = [add(RAIN), add(CLOUDS), tight, add(STORMS), "drop 1", change(0, FOG), tight]
        states = [held(desk)]
        for line in lines:
            desk.run(line)
            states.append(held(desk))
        for _ in range(2):
            for state in states[-2::-1]:
                self.assertEqual(desk.run("undo"), "")
                self.assertEqual(held(desk), state)
            self.assertEqual(error_of(desk.run, "undo").word, "undo")
            self.assertEqual(held(desk), states[0])
            for state in states[1:]:
                self.assertEqual(desk.run("redo"), "")
                self.assertEqual(held(desk), state)
            self.assertEqual(error_of(desk.run, "redo").word, "redo")
            self.assertEqual(held(desk), states[-1])

    def test_a_deed_ends_redo(self):
        for deed in (add(FOG), "drop 0", change(0, RAIN), "style " + told(CLEAR)):
            desk = desk_of((RAIN, CLOUDS, STORMS))
            desk.run("undo")
            desk.run("undo")
            desk.run(deed)
            self.assertIs(type(error_of(desk.run, "redo")), NothingToUndo)
            self.assertEqual(desk.lines, (add(RAIN), deed))
            desk.run("undo")
            self.assertEqual((desk.books, desk.lines), ((RAIN,), (add(RAIN),)))
            desk.run("redo")
            self.assertEqual(desk.lines, (add(RAIN), deed))

    def test_lines_that_raise_do_not_end_redo(self):
        desk = desk_of((RAIN, CLOUDS))
        desk.run("undo")
        for line in ("drop 5", add(RAIN), "add 1", change(1, FOG), 'read "x"', "x", None, "show", "labels"):
            tried(desk, line)
        desk.run("redo")
        self.assertEqual(desk.books, (RAIN, CLOUDS))


class TestReplayed(unittest.TestCase):

    def test_lines_are_run(self):
        lines = (add(RAIN), "show", add(FOG), "undo", 'read ""', "redo", "labels", "undo")
        for kind in (tuple, list):
            desk = replayed(CLEAR, LATIN, kind(lines))
            self.assertEqual((desk.books, desk.lines), ((RAIN,), (add(RAIN),)))
            desk.run("redo")
            self.assertEqual(desk.books, (RAIN, FOG))

    def test_errors(self):
        for line, kind in (
            ("x", InvalidLine), (None, InvalidLine), ("drop 1", InvalidNumber), (add(RAIN), Undefined),
            ("redo", NothingToUndo), ('read "x"', InvalidText),
        ):
            self.assertIs(type(error_of(replayed, CLEAR, LATIN, [add(RAIN), line, None])), kind)

    def test_a_list_of_lines_is_not_changed_or_kept(self):
        lines = [add(RAIN)]
        desk = replayed(CLEAR, LATIN, lines)
        desk.run(add(FOG))
        self.assertEqual(lines, [add(RAIN)])
        lines.append("x")
        self.assertEqual(desk.lines, (add(RAIN), add(FOG)))


class Told:
    """A desk told anew: all states that it was in, and at which one it is."""

    def __init__(self, style):
        self.states, self.at = [((), style, ())], 0

    def now(self):
        return self.states[self.at]

    def go(self, by):
        if not 0 <= self.at + by < len(self.states):
            return ("NothingToUndo", {"word": "undo" if by < 0 else "redo"})
        self.at += by
        return ""

    def do(self, line, books, style, answer):
        self.states[self.at + 1:] = [(books, style, self.now()[2] + (line,))]
        self.at += 1
        return answer

    def add(self, one):
        books, style, _ = self.now()
        if one in books or len(books) == 8:
            return ("Undefined", {"what": "book"})
        return self.do(add(one), books + (one,), style, labels(books + (one,))[-1])

    def drop(self, number):
        books, style, _ = self.now()
        if number >= len(books):
            return ("InvalidNumber", {"value": number})
        others = books[:number] + books[number + 1:]
        return self.do(f"drop {number}", others, style, relabelled(books, others))

    def change(self, number, one):
        books, style, _ = self.now()
        if number >= len(books):
            return ("InvalidNumber", {"value": number})
        if one in books and books[number] != one:
            return ("Undefined", {"what": "book"})
        others = books[:number] + (one,) + books[number + 1:]
        return self.do(change(number, one), others, style, relabelled(books, others))

    def dress(self, style):
        return self.do("style " + told(style), self.now()[0], style, apart_or_mixed(style))


class TestAnyDeeds(unittest.TestCase):

    def step(self, chance, desk, model):
        """One line by chance; what the desk and the model answer."""
        books = model.now()[0]
        one = chance.choice([one for one in POOL if has_room(books, one) or one in books])
        number = chance.randint(0, len(books)) if chance.random() < 0.2 else chance.randrange(max(1, len(books)))
        word = chance.choice(("add", "add", "add", "drop", "change", "style", "undo", "undo", "redo", "redo"))
        if word == "add":
            return tried(desk, add(one)), model.add(one)
        if word == "drop":
            return tried(desk, f"drop {number}"), model.drop(number)
        if word == "change":
            return tried(desk, change(number, one)), model.change(number, one)
        if word == "style":
            style = chance.choice(STYLES)
            return tried(desk, "style " + told(style)), model.dress(style)
        return tried(desk, word), model.go(-1 if word == "undo" else 1)

    def assert_told(self, desk, model):
        books, style, lines = model.now()
        self.assertEqual((desk.books, desk.style, desk.lines), (books, style, lines))
        self.assertEqual(desk.run("show"), set_list(style, books, SPANISH))
        self.assertEqual(desk.run("labels"), "".join(text + "\n" for text in labels(books)))
        if style == CLEAR:
            self.assertEqual(untold(desk.run(reading(desk.run("show")))), ordered(books, SPANISH))
        if hides(style):
            self.assertEqual(tried(desk, 'read ""'), ("Undefined", {"what": "hidden"}))

    def test_forty_lines(self):
        chance = random.Random(1)
        kinds = {}
        for _ in range(40):
            desk, model = Desk(CLEAR, SPANISH), Told(CLEAR)
            for _ in range(40):
                answer, wanted = self.step(chance, desk, model)
                self.assertEqual(answer, wanted)
                kind = wanted[0] if isinstance(wanted, tuple) else "done"
                kinds[kind] = kinds.get(kind, 0) + 1
                self.assert_told(desk, model)
            self.assert_like_replayed(desk)
        self.assertEqual(set(kinds), {"done", "Undefined", "InvalidNumber", "NothingToUndo"})
        self.assertGreater(min(kinds.values()), 20, kinds)

    def assert_like_replayed(self, desk):
        other = replayed(CLEAR, SPANISH, desk.lines)
        for line in ("undo",) * len(desk.lines):
            self.assertEqual(held(desk), held(other))
            self.assertEqual(desk.run(line), other.run(line))
        self.assertEqual(held(desk), held(other))
        self.assertEqual(tried(desk, "undo"), tried(other, "undo"))

    def test_a_replayed_desk_answers_alike(self):
        chance = random.Random(2)
        for _ in range(25):
            desk, model = Desk(CLEAR, SPANISH), Told(CLEAR)
            for _ in range(20):
                self.step(chance, desk, model)
            other = replayed(CLEAR, SPANISH, desk.lines)
            for line in (
                "x", add(FOG), "drop 0", change(1, RAIN), "labels", "undo", "show", "undo", "style " + told(TIGHT),
                reading(desk.run("show")), "undo",
            ):
                self.assertEqual(tried(desk, line), tried(other, line))
                self.assertEqual(held(desk), held(other))


class TestPlaces(unittest.TestCase):

    def test_all_stand_in_their_module(self):
        for name in ("Desk", "replayed"):
            self.assertEqual(getattr(module, name).__module__, "ibidem.desk")
        self.assertIn("run", vars(Desk))
        self.assertLessEqual({"books", "style", "lines"}, set(vars(Desk(CLEAR, LATIN))))


if __name__ == "__main__":
    unittest.main()
