"""Promises [13] and [14]: styles that are apart, with their papers, and mixed ones, with their books."""

import itertools
import random
import unittest

from ibidem import apart, shortest
from ibidem.apart import apart_holds, apart_paper, is_apart, mixed_books, mixed_length
from ibidem.books import SHAPES, is_book, shape_of
from ibidem.errors import InvalidStyle, InvalidText, Undefined
from ibidem.pairs import Pairs
from ibidem.reading import read_entry, read_list
from ibidem.setting import set_entry, set_list
from ibidem.shelving import ordered
from ibidem.spots import spots_of
from ibidem.styles import hidden, hides, is_style, tokens
from retold import SIGNS, told_final, told_steps
from samples import BOOKS, CLEAR, LATIN, ODD, PLAIN, RAIN, TIGHT, changed, error_of
from small import (
    NAMES, PLACE, RUNNING, TITLE, VOLUME, YEAR, any_style, by_entries, hiding, mark, mixed, small_books,
)

FUNCTIONS = (apart_paper, is_apart, mixed_length, mixed_books)
NO_STYLES = (None, (), list(CLEAR), changed(CLEAR, 0, ()), (CLEAR[0], changed(CLEAR[1], 5, True)), RAIN)
EMPTY = ((PLACE,), PLAIN[1])
APART = (CLEAR, RUNNING[2], RUNNING[3])
SMALL = list(small_books(9))


def choice(field, there, lacking=()):
    return ("if", field, there, lacking)


def told_table(style):
    """By each spot, by each sign that has any, its steps; and the final spots."""
    table, finals = {}, set()
    for spot in spots_of(style):
        row = tokens(style, spot[0])
        steps = {sign: told_steps(row, spot, sign) for sign in SIGNS}
        table[spot] = {sign: ends for sign, ends in steps.items() if ends}
        if told_final(row, spot):
            finals.add(spot)
    return table, finals


def told_firsts(table):
    """The pairs of rules 1 and 2."""
    starts = [(shape, -1, 0) for shape in SHAPES]
    twos = [tuple(sorted(ends)) for steps in table.values() for ends in steps.values() if len(ends) == 2]
    return set(itertools.combinations(starts, 2)) | set(twos)


def told_after(table, pair):
    """The pairs that rule 3 asks for where this one is."""
    one, other = table[pair[0]], table[pair[1]]
    return {tuple(sorted(ends)) for sign in one if sign in other for ends in itertools.product(one[sign], other[sign])}


def told_closed(table, pairs):
    """The pairs and all those that come of them by rule 3."""
    found, waiting = set(pairs), list(pairs)
    while waiting:
        for pair in told_after(table, waiting.pop()):
            if pair not in found:
                found.add(pair)
                waiting.append(pair)
    return found


def told_paper(style):
    """The least paper of a style that hides nothing, None if rule 4 is broken by it."""
    table, finals = told_table(style)
    found = told_closed(table, told_firsts(table))
    return None if any(one in finals and other in finals for one, other in found) else tuple(sorted(found))


def shortest_alike(style):
    """The least length of a line of two of the small books, None if there is none."""
    lines = [text for text, books in by_entries(style, SMALL).items() if len(books) > 1]
    return min(map(len, lines), default=None)


def some_styles(seed, many):
    chance = random.Random(seed)
    return [any_style(chance, chance.choice(("A", "a", "Aa", "1", "a ", ".", "Aa1", "-", "a.1 ,", ",-"))) for _ in range(many)]


class TestApart(unittest.TestCase):

    def assert_undefined(self, style):
        error = error_of(apart_paper, style)
        self.assertIs(type(error), Undefined)
        self.assertEqual(error.what, "paper")

    def test_ordinary_styles(self):
        self.assertIs(is_apart(CLEAR), True)
        self.assertIs(is_apart(TIGHT), False)
        self.assertIs(is_apart(PLAIN), False)
        self.assertIs(is_apart(EMPTY), False)
        self.assertIs(is_apart(style=CLEAR), True)

    def test_marks_that_part_and_marks_that_do_not(self):
        shown = ("behind", True, ", ", "; ", " & ", 3, "")
        for end, wanted in (
            ((choice("place", (mark(": "), PLACE)), choice("volume", (mark(", "), VOLUME))), True),
            ((choice("place", (mark(": "), PLACE)), VOLUME), True),
            ((PLACE, VOLUME), True),
            ((VOLUME, PLACE), True),
            ((choice("place", (mark(" "), PLACE)), VOLUME), True),
            ((choice("place", (mark("a"), PLACE), (mark("a"),)), VOLUME), True),
            ((choice("place", (PLACE,), (mark("Aa"),)), VOLUME), False),
            ((choice("place", (PLACE,), (mark("a"),)), VOLUME), True),
            ((choice("volume", (VOLUME,), (mark("9"),)), PLACE), False),
            ((choice("volume", (VOLUME,), (mark("0"),)), PLACE), True),
        ):
            style = mixed(shown, NAMES, mark(" ("), YEAR, mark(") "), TITLE, *end)
            self.assertIs(is_apart(style), wanted, end)

    def test_the_least_paper(self):
        for style in APART + tuple(style for style in some_styles(1, 40) if is_apart(style)):
            self.assertEqual(apart_paper(style=style), told_paper(style), style)

    def test_mixed_styles_have_no_paper(self):
        mixed_ones = [style for style in RUNNING + tuple(some_styles(2, 60)) if not is_apart(style)]
        self.assertGreater(len(mixed_ones), 20)
        for style in mixed_ones:
            self.assertIsNone(told_paper(style), style)
            self.assert_undefined(style)

    def test_hiding_styles_have_no_paper(self):
        chance = random.Random(3)
        for style in filter(hides, (PLAIN, EMPTY, *(hiding(chance, style) for style in APART * 9))):
            self.assertIs(is_apart(style), False)
            self.assert_undefined(style)

    def test_apart_just_if_no_two_books_are_told(self):
        both = [0, 0]
        for style in RUNNING + tuple(some_styles(4, 90)):
            self.assertTrue(is_style(style))
            found = is_apart(style)
            both[found] += 1
            self.assertIs(mixed_books(style) is None, found)
            self.assertIs(mixed_length(style) is None, found)
            if found:
                self.assertTrue(apart_holds(style, apart_paper(style)))
            else:
                self.assert_undefined(style)
        self.assertGreater(min(both), 20)

    def test_apart_styles_are_read_back(self):
        for style in APART + tuple(style for style in some_styles(5, 30) if is_apart(style)):
            for book in BOOKS + tuple(SMALL[::50]):
                self.assertEqual(read_entry(style, set_entry(style, book)), (book,))
            for books in (BOOKS, tuple(SMALL[::300])):
                self.assertEqual(read_list(style, set_list(style, books, LATIN)), ordered(books, LATIN))

    def test_mixed_lines_are_read_as_several_books(self):
        for style in RUNNING + tuple(some_styles(6, 60)):
            books = mixed_books(style)
            if books is not None:
                line = set_entry(style, books[0])
                self.assertLessEqual(set(books), set(read_entry(style, line)))
                for book in books:
                    error = error_of(read_list, style, set_list(style, (book,), LATIN))
                    self.assertIs(type(error), InvalidText)
                    self.assertEqual(error.at, 0)


class TestApartHolds(unittest.TestCase):

    def test_the_least_paper_holds(self):
        for style in APART:
            self.assertIs(apart_holds(style, apart_paper(style)), True)
            self.assertIs(apart_holds(paper=apart_paper(style), style=style), True)

    def test_no_pair_of_the_least_paper_may_lack(self):
        style = RUNNING[2]
        paper = apart_paper(style)
        for at in range(len(paper)):
            self.assertIs(apart_holds(style, paper[:at] + paper[at + 1:]), False)

    def test_papers_that_are_not_the_least(self):
        held = {True: 0, False: 0}
        for style in APART:
            table, finals = told_table(style)
            paper = apart_paper(style)
            spots = spots_of(style)
            for one, other in list(itertools.combinations_with_replacement(spots, 2))[::401]:
                whole = told_closed(table, set(paper) | {(one, other)})
                wanted = not any(first in finals and second in finals for first, second in whole)
                held[wanted] += 1
                self.assertIs(apart_holds(style, tuple(sorted(whole))), wanted)
                if len(whole) > len(paper) + 1:
                    alone = tuple(sorted({*paper, (one, other)}))
                    self.assertIs(apart_holds(style, alone), False)
        self.assertGreater(min(held.values()), 8)

    def test_a_pair_more_without_a_step(self):
        # No sign leads on from both of these, so the paper needs no pair beside.
        style, paper = CLEAR, apart_paper(CLEAR)
        pair = (((1, 0, 0), 0, 1), ((1, 1, 0), tokens(style, (1, 1, 0)).index(("year",)), 4))
        self.assertNotIn(pair, paper)
        self.assertIs(apart_holds(style, tuple(sorted(paper + (pair,)))), True)
        self.assertIs(apart_holds(style, paper + (pair,)), False)
        self.assertIs(apart_holds(style, tuple(sorted(paper + (pair[::-1],)))), False)

    def test_pairs_of_one_spot_twice(self):
        paper = apart_paper(CLEAR)
        table, _ = told_table(CLEAR)
        for spot in spots_of(CLEAR)[::7]:
            self.assertIs(apart_holds(CLEAR, tuple(sorted(paper + ((spot, spot),)))), False)
            self.assertIs(apart_holds(CLEAR, tuple(sorted(told_closed(table, {*paper, (spot, spot)})))), False)

    def test_the_sequence(self):
        style = RUNNING[2]
        paper = apart_paper(style)
        for other in (
            paper[::-1], paper + paper[-1:], paper[:1] + paper, paper[1:] + paper[:1], paper[1::-1] + paper[2:],
            tuple((second, first) for first, second in paper), ((paper[0][1], paper[0][0]),) + paper[1:],
            paper[:5] + paper[6:7] + paper[5:6] + paper[7:], paper[:5] + paper[5:6] + paper[5:],
        ):
            self.assertIs(apart_holds(style, other), False)

    def test_lists_and_bools_within(self):
        style = RUNNING[2]
        paper = apart_paper(style)
        self.assertIs(apart_holds(style, list(paper)), False)
        for at in (0, 1, len(paper) // 2, len(paper) - 1):
            one, other = pair = paper[at]
            parts = [list(pair), (one, list(other)), (list(one), other), (one,), (one, other, other), one, None, ()]
            for spot, put in ((one, lambda new: (new, other)), (other, lambda new: (one, new))):
                shape, token, inside = spot
                parts += [put((list(shape), token, inside)), put((shape, token)), put((shape, token, inside, 0))]
                parts += [put((shape, token, part)) for part in (inside == 1, str(inside), inside + 9, -1, None)]
                parts += [put((shape, part, inside)) for part in (token == 1, str(token), token + 99, -2, None, [token])]
                for number in range(3):
                    for part in (shape[number] == 1, str(shape[number]), 4, None, [shape[number]]):
                        parts.append(put((changed(shape, number, part), token, inside)))
            for part in parts:
                self.assertIs(apart_holds(style, changed(paper, at, part)), False, part)

    def test_ones_and_noughts_as_bools(self):
        style = RUNNING[2]
        paper = apart_paper(style)
        same = 0
        for at, pair in enumerate(paper[::9]):
            for side, deep in itertools.product((0, 1), range(5)):
                shape, token, inside = spot = pair[side]
                numbers = [*shape, token, inside]
                if numbers[deep] in (0, 1):
                    numbers[deep] = bool(numbers[deep])
                    new = (tuple(numbers[:3]), *numbers[3:])
                    self.assertEqual(new, spot)
                    other = changed(paper, 9 * at, changed(pair, side, new))
                    self.assertEqual(other, paper)
                    self.assertIs(apart_holds(style, other), False)
                    same += 1
        self.assertGreater(same, 100)

    def test_any_value_as_paper(self):
        for style in (CLEAR, TIGHT, PLAIN, EMPTY):
            for value in ODD + (spots_of(style), (spots_of(style)[:2],), "paper", (("ab", "cd"),), ((1, 2),), style):
                self.assertIs(apart_holds(style, value), False)

    def test_papers_of_other_styles(self):
        for style, other in itertools.permutations(APART, 2):
            self.assertIs(apart_holds(style, apart_paper(other)), False)

    def test_mixed_styles_have_none(self):
        for style in RUNNING:
            if style not in APART:
                table, _ = told_table(style)
                whole = told_closed(table, told_firsts(table))
                self.assertIs(apart_holds(style, tuple(sorted(whole))), False)
                self.assertIs(apart_holds(style, tuple(sorted(told_firsts(table)))), False)
                rest = {pair for pair in whole if not told_final_pair(style, pair)}
                self.assertIs(apart_holds(style, tuple(sorted(rest))), False)

    def test_hiding_styles_have_none(self):
        # What would be a paper if the style did not hide the givens.
        style = (CLEAR[0], changed(CLEAR[1], 0, "none"))
        self.assertTrue(hides(style))
        paper = told_paper(style)
        self.assertIsNotNone(paper)
        self.assertIs(apart_holds(style, paper), False)

    def test_a_paper_that_holds_shows_the_style_apart(self):
        held = 0
        for style in some_styles(7, 60):
            table, finals = told_table(style)
            whole = told_closed(table, told_firsts(table))
            fit = sorted(pair for pair in whole if not (pair[0] in finals and pair[1] in finals))
            found = apart_holds(style, tuple(fit))
            held += found
            self.assertIs(found, is_apart(style))
        self.assertGreater(held, 10)


def told_final_pair(style, pair):
    return all(told_final(tokens(style, spot[0]), spot) for spot in pair)


class TestMixed(unittest.TestCase):

    def assert_mixed(self, style, length):
        """The length is told, and two books that show it."""
        self.assertEqual(mixed_length(style), length, style)
        found = mixed_books(style)
        self.assertIs(type(found), tuple)
        one, other = found
        self.assertTrue(is_book(one) and is_book(other))
        self.assertNotEqual(one, other)
        self.assertEqual(set_entry(style, one), set_entry(style, other))
        self.assertEqual(len(set_entry(style, one)), length)
        self.assertEqual(mixed_books(style=style), found)

    def test_apart_styles_have_none(self):
        for style in APART:
            self.assertIsNone(mixed_length(style))
            self.assertIsNone(mixed_books(style))
        self.assertIsNone(mixed_length(style=CLEAR))

    def test_ordinary_mixed_styles(self):
        # "ABCD1111" is two books; so is "A, A. (1000) A" of one with a volume or without.
        self.assert_mixed(TIGHT, 8)
        self.assert_mixed(PLAIN, len("A, A. (1000) A"))

    def test_lines_of_two_shapes(self):
        shown = ("behind", True, ", ", "; ", " & ", 3, "")
        for style, line in (
            (mixed(shown, NAMES, YEAR, TITLE, mark("-"), PLACE, choice("volume", (VOLUME,), (mark("7"),))), "A, A.1000A-7"),
            (mixed(shown, NAMES, YEAR, TITLE, mark("-"), PLACE, choice("volume", (VOLUME,), (mark("777"),))), "A, A.1000A-777"),
            (mixed(shown, NAMES, YEAR, TITLE, choice("place", (PLACE,), (mark("Aba"),)), VOLUME), "A, A.1000AAba"),
            (mixed(shown, choice("place", (PLACE, NAMES), (NAMES,)), TITLE, YEAR, VOLUME), None),
            (mixed(shown, choice("place", (PLACE, TITLE), (mark("Zz"), TITLE)), NAMES, YEAR, VOLUME), "ZzAA, A.1000"),
        ):
            if line is None:
                self.assertIsNone(mixed_length(style))
            else:
                self.assert_mixed(style, len(line))
                self.assertEqual({shape_of(book)[0] for book in mixed_books(style)}, {1})

    def test_shortest_of_all_small_books(self):
        several = 0
        for style in RUNNING + tuple(some_styles(8, 120)):
            wanted = shortest_alike(style)
            found = mixed_length(style)
            if found is None:
                self.assertIsNone(wanted)
            # A book that is set as so short a text is surely one of the small ones.
            if found is not None and found <= 9 + 4:
                several += 1
                self.assertEqual(found, wanted, style)
            elif wanted is not None:
                self.assertLessEqual(9 + 4, found)
                self.assertLessEqual(found, wanted, style)
            if found is not None:
                self.assert_mixed(style, found)
        self.assertGreater(several, 20)

    def test_hiding_styles(self):
        for style, length in (
            (EMPTY, 0),
            (mixed(PLAIN[1], mark("-")), 1),
            (mixed(PLAIN[1], YEAR), 4),
            (mixed(PLAIN[1], TITLE), 1),
            (mixed(PLAIN[1], VOLUME, mark("..")), 2),
            (mixed(PLAIN[1], YEAR, TITLE, PLACE, VOLUME), 5),
            (mixed(changed(CLEAR[1], 0, "none"), *CLEAR[0]), len("A (1000) A.")),
            (mixed(changed(CLEAR[1], 5, 1), *CLEAR[0]), len("A, A. (1000) A.")),
            (mixed(changed(CLEAR[1], 5, 2), *CLEAR[0]), len("A, A.; A, A. (1000) A.")),
            (mixed(CLEAR[1], NAMES, TITLE), len("A, A.A")),
            (mixed(CLEAR[1], NAMES, choice("place", (mark("--"), PLACE), (mark("+"), TITLE)), YEAR), len("A, A.+A1000")),
        ):
            self.assertTrue(hides(style))
            self.assert_mixed(style, length)

    def test_what_is_hidden_is_told_where_nothing_else_is_alike(self):
        # Only the volume is hidden, and each shape has marks of its own.
        tail = (choice("place", (mark(" @ "), PLACE)), choice("volume", (mark("###"),)))
        style = mixed(CLEAR[1], NAMES, YEAR, TITLE, *tail)
        self.assert_mixed(style, len("A, A.1000A###"))
        one, other = mixed_books(style)
        self.assertEqual(changed(one, 4, None), changed(other, 4, None))
        self.assertEqual(shape_of(one), shape_of(other))

    def test_what_is_shown_may_be_shorter(self):
        # A line with the hidden volume has a mark of three signs more than one of two readings.
        style = mixed(TIGHT[1], NAMES, TITLE, PLACE, YEAR, choice("volume", (mark("###"),)))
        self.assert_mixed(style, len("ABCD1999"))
        style = mixed(TIGHT[1], NAMES, TITLE, PLACE, YEAR, choice("volume", (mark("#"),)))
        self.assert_mixed(style, len("ABCD1999"))
        style = mixed(TIGHT[1], NAMES, TITLE, PLACE, YEAR)
        self.assert_mixed(style, len("ABC1999"))

    def test_hiding_styles_against_small_books(self):
        chance = random.Random(19)
        shorter = 0
        for style in RUNNING * 8 + tuple(some_styles(10, 20)):
            style = hiding(chance, style)
            if hides(style):
                least = min(shortest_entry(style, shape) for shape, _ in hidden(style))
                shown = shortest_alike(style)
                wanted = least if shown is None else min(least, shown)
                shorter += wanted < least
                self.assert_mixed(style, wanted)
        self.assertGreater(shorter, 4)


def shortest_entry(style, shape):
    """The least length of a line of a book of the shape."""
    return sum(4 if token == ("year",) else 2 if token[0] == "dotted" else 1 for token in tokens(style, shape))


class TestOneShape(unittest.TestCase):

    def test_books_of_one_shape(self):
        # Two books of unlike shapes have a line as short as these, so the search alone tells none of one shape.
        many = 0
        for style in RUNNING:
            pairs = Pairs(style)
            came = {code: None for code in pairs.alone()}
            layer, found = list(came), []
            while layer:
                found += [code for code in layer if pairs.is_final(code)]
                layer = shortest._next_layer(pairs, came, layer)
            many += len(found)
            if is_apart(style):
                self.assertEqual(found, [])
            for code in found:
                one, other = shortest._books_at(style, pairs, came, code)
                self.assertNotEqual(one, other)
                self.assertEqual(shape_of(one), shape_of(other))
                self.assertEqual(set_entry(style, one), set_entry(style, other))
        self.assertGreater(many, 10)

    def test_each_book_keeps_its_own_row(self):
        pairs = Pairs(CLEAR)
        for code in pairs.of_starts():
            one, other = pairs.numbers_of(code)
            for sign, end in pairs.steps_from(code):
                first, second = pairs.numbers_of(end)
                self.assertEqual(shortest._before(pairs, code, sign, (first, second)), (one, other))
                self.assertEqual(shortest._before(pairs, code, sign, (second, first)), (other, one))


class TestWrongValues(unittest.TestCase):

    def test_what_is_no_style(self):
        for value in NO_STYLES + ODD:
            for function in FUNCTIONS:
                error = error_of(function, value)
                self.assertIs(type(error), InvalidStyle)
                self.assertIs(error.value, value)
            for paper in ((), None, apart_paper(CLEAR)):
                error = error_of(apart_holds, value, paper)
                self.assertIs(type(error), InvalidStyle)
                self.assertIs(error.value, value)

    def test_all_stand_in_their_module(self):
        for function in FUNCTIONS + (apart_holds,):
            self.assertEqual(getattr(apart, function.__name__).__module__, "ibidem.apart")


class TestLimits(unittest.TestCase):

    def test_the_largest_papers(self):
        aaa = mark("aaa")
        long = choice("place", (aaa,) * 3, (aaa,) * 3)
        tail = (YEAR, choice("place", (mark("."), PLACE)), choice("volume", (mark(","), VOLUME)))
        style = mixed(("ahead", True, "A", "a", "a", 3, ""), NAMES, *(long,) * 5, TITLE, *tail)
        self.assertTrue(is_style(style))
        self.assertEqual(len(style[0]), 10)
        self.assertIs(is_apart(style), True)
        self.assertIsNone(mixed_length(style))
        paper = apart_paper(style)
        self.assertGreater(len(paper), 50000)
        self.assertIs(apart_holds(style, paper), True)
        for at in (0, 100, 30000, len(paper) - 1):
            self.assertIs(apart_holds(style, paper[:at] + paper[at + 1:]), False)
        style = mixed(("behind", True, "aa", "aaa", "aaa", 3, ""), TITLE, *(long,) * 5, NAMES, *tail)
        paper = apart_paper(style)
        self.assertGreater(len(paper), 100000)
        self.assertIs(apart_holds(style, paper), True)

    def test_the_longest_mixed_lines(self):
        a_a = mark("a a")
        long = choice("place", (a_a,) * 3, (a_a,) * 3)
        tail = (YEAR, choice("place", (mark("."), PLACE)), choice("volume", (mark("."), VOLUME), (mark(".99"),)))
        style = mixed(("behind", True, "aa", "aaa", "aaa", 3, ""), TITLE, *(long,) * 5, NAMES, *tail)
        self.assertIs(is_apart(style), False)
        self.assertEqual(mixed_length(style), len("A" + "a a" * 15 + "AaaA." + "1000" + ".99"))
        one, other = mixed_books(style)
        self.assertNotEqual(one, other)
        self.assertEqual(set_entry(style, one), set_entry(style, other))


if __name__ == "__main__":
    unittest.main()
