"""The promises over the whole program: the overview's main promise, the sentences in bold, and the limits of [4]."""

import itertools
import random
import unittest

from ibidem.alikes import unlike_book, unlike_shape
from ibidem.apart import apart_holds, apart_paper, is_apart, mixed_books, mixed_length
from ibidem.books import SHAPES, is_book, is_list, shape_of
from ibidem.claims import answer_of, claim_holds, is_claim, seal_claim
from ibidem.desk import Desk, replayed
from ibidem.errors import CiteError, Undefined
from ibidem.manuscripts import is_manuscript, read_text, renumbered, set_text, without_uncited
from ibidem.marks import are_fair, cost_of, do_part, labels, least_marks
from ibidem.reading import read_entry, read_list
from ibidem.setting import set_entry, set_list
from ibidem.shelving import book_key, ordered, place_for
from ibidem.styles import hides, is_style, tokens
from ibidem.told import told, untold
from lists import any_list
from samples import BOOKS, CLEAR, LATIN, PLAIN, RAIN, SPANISH, TIGHT, changed, error_of
from small import NAMES, PLACE, RUNNING, TITLE, VOLUME, YEAR, any_style, hiding, mark, mixed, small_books

SMALL = list(small_books(7))

# A book and a style as large as they may be.
LONGEST = (
    (("Abcdefgh", "ABCDEFGH"), ("Bcdefghi", "BCDEFGHI"), ("Cdefghij", "CDEFGHIJ")),
    2999, "A" + "b" * 14 + " " + "c" * 14, "Zyxwvuts", 999,
)
AAA = mark("aaa")
LARGEST = mixed(
    ("behind", True, "; ", " & ", " + ", 3, "..."), mark("[[["), NAMES, mark(" ("), YEAR, mark(") "), TITLE,
    mark("---"),
    ("if", "place", (mark(": "), PLACE, mark(";;;")), (AAA,) * 3),
    ("if", "volume", (mark(" v."), VOLUME, mark("---")), (AAA,) * 3), AAA,
)


def any_styles(seed, many):
    """Styles by chance, of each also one that hides something."""
    chance = random.Random(seed)
    for _ in range(many):
        style = any_style(chance, chance.choice(("Aa", "-", "1.", ";,", "a ")))
        yield style
        yield hiding(chance, style)


def any_book(chance, longest):
    """Some book of parts of the one that is as large as may be."""
    names, _, title, place, _ = longest
    many = chance.randint(1, 3)
    cut = [(family[:chance.randint(1, 8)], given[:chance.randint(1, 8)]) for family, given in names[:many]]
    return (
        tuple(cut), chance.randint(1000, 2999), title[:chance.choice((1, 5, 15, 17, 30))],
        chance.choice((None, place[:chance.randint(1, 8)])), chance.choice((None, chance.randint(1, 999))),
    )


class TestMainPromise(unittest.TestCase):

    def test_apart_or_mixed_never_both(self):
        both = [0, 0]
        for style in (CLEAR, PLAIN, TIGHT, LARGEST) + RUNNING + tuple(any_styles(1, 40)):
            answer = answer_of(style)
            both[is_apart(style)] += 1
            if is_apart(style):
                paper = apart_paper(style)
                self.assertEqual(answer, ("apart", style))
                self.assertTrue(apart_holds(style, paper) and claim_holds(answer, paper))
                self.assertIsNone(mixed_length(style))
                self.assertIsNone(mixed_books(style))
            else:
                word, told_style, one, other = answer
                self.assertEqual((word, told_style), ("mixed", style))
                self.assertTrue(is_book(one) and is_book(other) and one != other)
                line = set_entry(style, one)
                self.assertEqual(set_entry(style, other), line)
                self.assertEqual(len(line), mixed_length(style))
                self.assertEqual(type(error_of(apart_paper, style)), Undefined)
                self.assertFalse(claim_holds(("apart", style), ()))
                if not hides(style):
                    self.assertLessEqual({one, other}, set(read_entry(style, line)))
        self.assertGreater(min(both), 10)

    def test_small_books_set_alike_are_no_shorter(self):
        for style in any_styles(2, 12):
            length = mixed_length(style)
            lines = {}
            for one in SMALL:
                lines.setdefault(set_entry(style, one), []).append(one)
            shared = [len(line) for line, books in lines.items() if len(books) > 1]
            if shared:
                self.assertIsNotNone(length)
                self.assertLessEqual(length, min(shared))

    def test_each_line_of_a_style_that_is_apart_is_read_as_its_book(self):
        chance = random.Random(3)
        found = 0
        for style in (CLEAR, LARGEST) + tuple(any_styles(3, 40)):
            if is_apart(style):
                books = tuple({any_book(chance, LONGEST) for _ in range(8)})
                self.assertTrue(is_list(books))
                for one in books:
                    self.assertEqual(read_entry(style, set_entry(style, one)), (one,))
                for letters in (LATIN, SPANISH):
                    self.assertEqual(read_list(style, set_list(style, books, letters)), ordered(books, letters))
                    self.assertTrue(claim_holds(("reads", style, books, letters), ()))
                found += 1
        self.assertGreater(found, 10)

    def test_alike_just_if_the_rows_are_the_same(self):
        styles = (CLEAR, PLAIN, TIGHT) + tuple(any_styles(4, 12))
        both = [0, 0]
        for one, other in itertools.product(styles, repeat=2):
            shapes = [shape for shape in SHAPES if tokens(one, shape) != tokens(other, shape)]
            both[not shapes] += 1
            self.assertEqual(unlike_shape(one, other), shapes[0] if shapes else None)
            self.assertIs(claim_holds(("alike", one, other), ()), not shapes)
            book = unlike_book(one, other)
            if shapes:
                self.assertEqual(shape_of(book), shapes[0])
                self.assertTrue(claim_holds(("unlike", one, other, book), ()))
            else:
                self.assertIsNone(book)
        self.assertGreaterEqual(min(both), len(styles))

    def test_labels_part_a_list(self):
        chance = random.Random(5)
        for _ in range(150):
            books = any_list(chance, 8)
            marks = least_marks(books)
            self.assertTrue(do_part(books, marks) and are_fair(books, marks))
            self.assertTrue(claim_holds(("least", books, marks), ()) and claim_holds(("parts", books, marks), ()))
            self.assertEqual(len(set(labels(books))), len(books))
            for at, mark_of in enumerate(marks):
                k, g, c = mark_of
                for other in ((k - 1, g, c), (k, 0, c), (k, 1 - g, c), (k + 1, g, c)):
                    value = changed(marks, at, other)
                    claim = ("parts", books, value)
                    if other != mark_of and is_claim(claim) and claim_holds(claim, ()):
                        self.assertLess(cost_of(books, marks), cost_of(books, value))


class TestBoldSentences(unittest.TestCase):

    def test_unlike_books_have_unlike_keys(self):
        for letters in (LATIN, SPANISH, LATIN[::-1]):
            self.assertEqual(len({book_key(one, letters) for one in SMALL}), len(SMALL))

    def test_ordered_hangs_on_which_books_there_are(self):
        chance = random.Random(6)
        for _ in range(60):
            books = any_list(chance, 8)
            row = ordered(books, SPANISH)
            self.assertEqual(ordered(tuple(chance.sample(books, len(books))), SPANISH), row)
            self.assertEqual([place_for(books, one, SPANISH) for one in row], list(range(len(row))))

    def test_a_paper_that_holds_makes_the_style_apart(self):
        styles = [style for style in any_styles(7, 20)]
        papers = [apart_paper(style) for style in styles if is_apart(style)] + [()]
        for style, paper in itertools.product(styles, papers):
            if apart_holds(style, paper):
                self.assertTrue(is_apart(style))

    def test_a_book_more_or_less_changes_its_own_lot_alone(self):
        chance = random.Random(8)
        for _ in range(100):
            books = any_list(chance, 8)
            before = dict(zip(books, least_marks(books)))
            for one in books:
                rest = tuple(other for other in books if other != one)
                for other, value in zip(rest, least_marks(rest)):
                    if (other[0][0][0], other[1]) != (one[0][0][0], one[1]):
                        self.assertEqual(before[other], value)

    def test_texts_are_read_back(self):
        for value in ((), (("words", "a"),), (("cite", (0,)), ("cite", (0,)), ("words", "]"), ("cite", (2, 1)))):
            text = set_text(BOOKS, value)
            self.assertEqual(read_text(BOOKS, text), value)
            self.assertEqual(set_text(BOOKS, read_text(BOOKS, text)), text)
            self.assertEqual(untold(told(value)), value)

    def test_a_claim_that_holds_is_true(self):
        for style in any_styles(9, 25):
            claim = ("apart", style)
            try:
                self.assertTrue(claim_holds(claim, seal_claim(claim)))
                self.assertTrue(is_apart(style))
            except CiteError:
                self.assertFalse(is_apart(style))
            answer = answer_of(style)
            self.assertTrue(claim_holds(answer, seal_claim(answer)))


class TestTogether(unittest.TestCase):

    def test_a_manuscript_follows_its_books(self):
        desk = replayed(CLEAR, LATIN, ["add " + told(one) for one in BOOKS])
        value = (("words", "See "), ("cite", (2,)), ("words", ", then "), ("cite", (2,)), ("cite", (4, 0)))
        self.assertEqual(set_text(desk.books, value), "See [Chall 1998b], then [ib.][Ash 2999; Ash + 2001]")
        before = desk.books
        self.assertEqual(desk.run("drop 1"), "1")
        moved = renumbered(before, value, desk.books)
        self.assertEqual(set_text(desk.books, moved), "See [Chall 1998], then [ib.][Ash 2999; Ash + 2001]")
        kept, fewer = without_uncited(desk.books, moved)
        self.assertEqual(desk.run("labels").split("\n")[:-1], list(labels(desk.books)))
        self.assertEqual(len(kept), 3)
        self.assertEqual(read_text(kept, set_text(kept, fewer)), fewer)
        desk.run("undo")
        self.assertEqual(renumbered(kept, fewer, desk.books), value)

    def test_told_claims_are_claims(self):
        for claim in (
            answer_of(CLEAR), answer_of(TIGHT), ("reads", CLEAR, BOOKS, SPANISH), ("least", BOOKS, least_marks(BOOKS)),
        ):
            self.assertEqual(untold(told(claim)), claim)
            paper = seal_claim(untold(told(claim)))
            if len(paper) < 10000:
                self.assertTrue(claim_holds(claim, untold(told(paper))))


class TestLimits(unittest.TestCase):

    def test_the_largest_book(self):
        self.assertTrue(is_book(LONGEST) and is_style(LARGEST))
        self.assertEqual((len(LONGEST[2]), len(LARGEST[0])), (30, 10))
        self.assertTrue(is_apart(LARGEST))
        line = set_entry(CLEAR, LONGEST)
        self.assertEqual(read_entry(CLEAR, line), (LONGEST,))
        self.assertEqual(read_entry(LARGEST, set_entry(LARGEST, LONGEST)), (LONGEST,))
        self.assertEqual(untold(told(LONGEST)), LONGEST)
        self.assertEqual(untold(told(LARGEST)), LARGEST)

    def test_papers_of_sixty_thousand_members(self):
        long = ("if", "place", (AAA,) * 3, (AAA,) * 3)
        tail = (YEAR, ("if", "place", (mark("."), PLACE), ()), ("if", "volume", (mark(","), VOLUME), ()))
        style = mixed(("ahead", True, "A", "a", "a", 3, ""), NAMES, *(long,) * 5, TITLE, *tail)
        claim = ("apart", style)
        paper = seal_claim(claim)
        self.assertGreater(len(paper), 50000)
        self.assertIs(claim_holds(claim, paper), True)
        for at in (0, 25000, len(paper) - 1):
            self.assertIs(claim_holds(claim, paper[:at] + paper[at + 1:]), False)

    def test_a_desk_of_forty_lines_and_large_books(self):
        chance = random.Random(10)
        books = [changed(changed(LONGEST, 1, 1000 + number // 6), 4, number + 1) for number in range(12)]
        lines = ["add " + told(one) for one in books[:8]]
        self.assertLess(max(map(len, lines)), 2000)
        lines += [f"change {chance.randrange(8)} " + told(books[8 + number]) for number in range(4)]
        lines += ["style " + told(style) for style in (LARGEST, TIGHT, LARGEST)]
        lines += ["drop 7", "undo", "redo", "show", "labels"] * 5
        self.assertEqual(len(lines), 40)
        desk = Desk(CLEAR, SPANISH)
        for line in lines:
            try:
                desk.run(line)
            except CiteError:
                self.assertTrue(line.startswith("drop") or line.startswith("change") or line == "redo")
        self.assertEqual(desk.run("show"), set_list(desk.style, desk.books, SPANISH))
        self.assertEqual(desk.run("labels"), "".join(text + "\n" for text in labels(desk.books)))
        other = replayed(CLEAR, SPANISH, desk.lines)
        self.assertEqual((other.books, other.style, other.lines), (desk.books, desk.style, desk.lines))

    def test_manuscripts_of_the_largest_list(self):
        books = tuple(changed(LONGEST, 4, number + 1) for number in range(6)) + (RAIN, changed(RAIN, 1, 2002))
        self.assertTrue(is_list(books))
        whole = tuple(range(8))
        value = (("words", "a" * 60), ("cite", whole)) * 6
        self.assertTrue(is_manuscript(books, value))
        self.assertEqual(read_text(books, set_text(books, value)), value)


if __name__ == "__main__":
    unittest.main()
