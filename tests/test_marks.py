"""Promises [17] to [19]: marks and labels."""

import itertools
import random
import unittest

from ibidem import marks
from ibidem.books import is_list
from ibidem.errors import InvalidBook, InvalidList, InvalidMarks, Undefined
from ibidem.marks import (
    are_fair, are_marks, book_by, cost_of, do_part, label, labels, least_marks, marks_changed, stem,
)
from lists import NO_LISTS, any_list, book
from samples import BOOKS, CLOUDS, FOG, ODD, RAIN, SNOW, STORMS, changed, error_of

NO_BOOKS = (None, (), list(RAIN), RAIN[:4], changed(RAIN, 1, 999), changed(RAIN, 0, ()), (RAIN,), "Ash 2001")

ASH = book(2001, "Ash J")
ASH_B = book(2001, "Ash J", title="B")
ASH_K = book(2001, "Ash K")
ASH_ELM = book(2001, "Ash J", "Elm KL")
ASH_ELM_OAK = book(2001, "Ash J", "Elm KL", "Oak Z")
ASH_OAK = book(2001, "Ash J", "Oak Z")

# Values that are no mark of a book with two names.
NO_MARKS = (
    None, (), [], (1, 0), (1, 0, 0, 0), [1, 0, 0], (0, 0, 0), (3, 0, 0), (-1, 0, 0), (1, 2, 0), (1, -1, 0), (1, 0, -1),
    (1, 0, 27), (True, 0, 0), (1, False, 0), (1, True, 0), (1, 0, True), (1, 0, False), ("1", 0, 0), (1, "0", 0),
    (1, 0, "a"), (None, 0, 0), (1, None, 0), (1, 0, None), ((1, 0), 0), "100", (1, 0, (0,)), ([1], 0, 0),
    (10 ** 5000, 0, 0), (1, 10 ** 5000, 0), (1, 0, 10 ** 5000), 1,
)


def told_lots(books):
    """The rows of the numbers of books with equal names and year."""
    keys = [(names, year) for names, year, *_ in books]
    return [[at for at, key in enumerate(keys) if key == first] for first in dict.fromkeys(keys)]


def told_stem(one, k, g):
    names = [f"{family} {''.join(sign + '.' for sign in given)}" if g else family for family, given in one[0]]
    return " & ".join(names[:k]) + " +" * (k < len(names)) + f" {one[1]}"


def told_labels(books, value):
    return [told_stem(one, k, g) + " abcdefghijklmnopqrstuvwxyz"[c].strip() for one, (k, g, c) in zip(books, value)]


def told_part(books, value):
    """Whether the marks part the list, told anew."""
    stems = [told_stem(one, k, g) for one, (k, g, _) in zip(books, value)]
    unlike = all(
        stems[at] != stems[to] for at, to in itertools.combinations(range(len(books)), 2) if books[at][:2] != books[to][:2]
    )
    return unlike and len(set(told_labels(books, value))) == len(books)


def told_fair(books, value):
    """Whether the marks are fair, told anew."""
    for lot in told_lots(books):
        letters = [value[at][2] for at in lot]
        if len({value[at][:2] for at in lot}) > 1 or letters != (list(range(1, len(lot) + 1)) if len(lot) > 1 else [0]):
            return False
    return True


def told_cost(books, value):
    shown = tuple(value[lot[0]][:2] for lot in told_lots(books))
    return (sum(g for _, g in shown), sum(k for k, _ in shown), shown)


def all_fair(books):
    """All fair marks of the list."""
    lots = told_lots(books)
    rows = [list(itertools.product(range(1, len(books[lot[0]][0]) + 1), (0, 1))) for lot in lots]
    for shown in itertools.product(*rows):
        found = [None] * len(books)
        for lot, pair in zip(lots, shown):
            for c, at in enumerate(lot, len(lot) > 1):
                found[at] = pair + (c,)
        yield tuple(found)


class TestStem(unittest.TestCase):

    def test_ordinary_stems(self):
        for one, k, g, wanted in (
            (ASH, 1, 0, "Ash 2001"), (ASH, 1, 1, "Ash J. 2001"),
            (RAIN, 1, 0, "Ash + 2001"), (RAIN, 1, 1, "Ash J. + 2001"),
            (RAIN, 2, 0, "Ash & Elm 2001"), (RAIN, 2, 1, "Ash J. & Elm K.L. 2001"),
            (SNOW, 1, 0, "Ash + 1000"), (SNOW, 2, 0, "Ash & Elm + 1000"), (SNOW, 2, 1, "Ash J. & Elm K.L. + 1000"),
            (SNOW, 3, 0, "Ash & Elm & Oak 1000"), (SNOW, 3, 1, "Ash J. & Elm K.L. & Oak Z. 1000"),
        ):
            self.assertEqual(stem(one, k, g), wanted)
            self.assertEqual(stem(book=one, k=k, g=g), wanted)
            self.assertEqual(told_stem(one, k, g), wanted)

    def test_what_is_none_for_the_book(self):
        for one in BOOKS:
            many = len(one[0])
            for k, g in (
                (0, 0), (many + 1, 0), (many + 1, 1), (-1, 0), (1, 2), (1, -1), (True, 0), (1, True), (1, False),
                ("1", 0), (1, "1"), (None, 0), (1, None), ([1], 0), (1, ()), (10 ** 5000, 0), (1, 10 ** 5000), (None, None),
            ):
                error = error_of(stem, one, k, g)
                self.assertIs(type(error), InvalidMarks)
                self.assertEqual(error.value, (k, g))
                self.assertIs(type(error.value), tuple)
                self.assertIs(error.value[0], k)

    def test_what_is_no_book(self):
        for value in NO_BOOKS + ODD:
            for k, g in ((1, 0), (9, None)):
                error = error_of(stem, value, k, g)
                self.assertIs(type(error), InvalidBook)
                self.assertIs(error.value, value)


class TestLabel(unittest.TestCase):

    def test_letters(self):
        self.assertEqual(label(RAIN, (1, 0, 0)), "Ash + 2001")
        self.assertEqual(label(book=RAIN, mark=(2, 1, 1)), "Ash J. & Elm K.L. 2001a")
        for c, sign in enumerate("abcdefghijklmnopqrstuvwxyz", 1):
            self.assertEqual(label(ASH, (1, 0, c)), "Ash 2001" + sign)

    def test_all_marks_of_a_book(self):
        for one in BOOKS:
            for k, g, c in itertools.product(range(1, len(one[0]) + 1), (0, 1), range(27)):
                self.assertEqual([label(one, (k, g, c))], told_labels([one], [(k, g, c)]))

    def test_what_is_no_mark(self):
        for value in NO_MARKS + ODD:
            error = error_of(label, RAIN, value)
            self.assertIs(type(error), InvalidMarks, value)
            self.assertIs(error.value, value)
        for one, value in ((ASH, (2, 0, 0)), (SNOW, (4, 1, 0))):
            self.assertIs(type(error_of(label, one, value)), InvalidMarks)
        self.assertEqual(label(SNOW, (3, 0, 0)), "Ash & Elm & Oak 1000")

    def test_what_is_no_book(self):
        for value in NO_BOOKS + ODD:
            for mark in ((1, 0, 0), None):
                error = error_of(label, value, mark)
                self.assertIs(type(error), InvalidBook)
                self.assertIs(error.value, value)


class TestAreMarks(unittest.TestCase):

    def test_marks_of_a_list(self):
        self.assertIs(are_marks((), ()), True)
        self.assertIs(are_marks((RAIN,), ((2, 1, 26),)), True)
        self.assertIs(are_marks(books=(RAIN, FOG), value=((1, 0, 0), (1, 1, 5))), True)
        self.assertIs(are_marks((RAIN, FOG), ((1, 0, 0), (2, 0, 0))), False)
        self.assertIs(are_marks((FOG, RAIN), ((1, 0, 0), (2, 0, 0))), True)

    def test_any_value(self):
        for value in NO_MARKS:
            for whole in ((value,), [value], value, (value, value)):
                self.assertIs(are_marks((RAIN,), whole), False, whole)
            self.assertIs(are_marks((RAIN, RAIN[:4] + (7,)), ((1, 0, 0), value)), False)
        for books in ((), (RAIN,), BOOKS):
            for value in ODD:
                self.assertIs(are_marks(books, value), False)
        self.assertIs(are_marks((RAIN,), [(1, 0, 0)]), False)
        self.assertIs(are_marks((RAIN,), ()), False)
        self.assertIs(are_marks((), ((1, 0, 0),)), False)
        self.assertIs(are_marks((RAIN, FOG), ((1, 0, 0),)), False)

    def test_what_is_no_list(self):
        for books in NO_LISTS + tuple(value for value in ODD if value != ()):
            for function in (are_marks, do_part, are_fair, cost_of):
                for value in ((), None, ((1, 0, 0),)):
                    error = error_of(function, books, value)
                    self.assertIs(type(error), InvalidList)
                    self.assertIs(error.value, books)


class TestPartAndFair(unittest.TestCase):

    def test_no_books(self):
        self.assertIs(do_part((), ()), True)
        self.assertIs(are_fair((), ()), True)
        self.assertEqual(cost_of((), ()), (0, 0, ()))

    def test_do_part(self):
        for books, value, wanted in (
            ((ASH,), ((1, 0, 0),), True),
            ((ASH,), ((1, 1, 3),), True),
            ((ASH, ASH_B), ((1, 0, 1), (1, 0, 2)), True),
            ((ASH, ASH_B), ((1, 0, 2), (1, 0, 1)), True),
            ((ASH, ASH_B), ((1, 0, 0), (1, 0, 1)), True),
            ((ASH, ASH_B), ((1, 0, 0), (1, 1, 0)), True),
            ((ASH, ASH_B), ((1, 0, 1), (1, 0, 1)), False),
            ((ASH, ASH_B), ((1, 0, 0), (1, 0, 0)), False),
            ((ASH, ASH_K), ((1, 0, 0), (1, 0, 0)), False),
            # The labels are unlike, but not the stems of books with unlike names.
            ((ASH, ASH_K), ((1, 0, 1), (1, 0, 2)), False),
            ((ASH, ASH_K), ((1, 0, 0), (1, 0, 1)), False),
            ((ASH, ASH_K), ((1, 0, 0), (1, 1, 0)), True),
            ((ASH, ASH_K), ((1, 1, 0), (1, 1, 0)), True),
            ((ASH, ASH_ELM), ((1, 0, 0), (1, 0, 0)), True),
            ((ASH_ELM, ASH_ELM_OAK), ((1, 0, 0), (1, 0, 0)), False),
            ((ASH_ELM, ASH_ELM_OAK), ((2, 0, 0), (2, 0, 0)), True),
            ((ASH_ELM, ASH_OAK), ((1, 0, 0), (1, 0, 0)), False),
            ((ASH_ELM, ASH_OAK), ((1, 1, 0), (1, 1, 0)), False),
            ((ASH_ELM, ASH_OAK), ((2, 0, 0), (1, 0, 0)), True),
            ((ASH, changed(ASH, 1, 2002)), ((1, 0, 0), (1, 0, 0)), True),
        ):
            self.assertIs(do_part(books, value), wanted, (books, value))
            self.assertIs(do_part(books=books, marks=value), wanted)

    def test_are_fair(self):
        ash_c = changed(ASH, 2, "C")
        for books, value, wanted in (
            ((ASH,), ((1, 0, 0),), True), ((ASH,), ((1, 1, 0),), True), ((ASH,), ((1, 0, 1),), False),
            ((ASH, ASH_B), ((1, 0, 1), (1, 0, 2)), True), ((ASH, ASH_B), ((1, 1, 1), (1, 1, 2)), True),
            ((ASH, ASH_B), ((1, 0, 2), (1, 0, 1)), False), ((ASH, ASH_B), ((1, 0, 0), (1, 0, 1)), False),
            ((ASH, ASH_B), ((1, 0, 0), (1, 0, 0)), False), ((ASH, ASH_B), ((1, 0, 1), (1, 0, 1)), False),
            ((ASH, ASH_B), ((1, 0, 1), (1, 1, 2)), False), ((ASH, ASH_B), ((1, 0, 1), (1, 0, 3)), False),
            ((ASH, ASH_K), ((1, 0, 0), (1, 0, 0)), True), ((ASH, ASH_K), ((1, 0, 1), (1, 0, 2)), False),
            ((ASH, ASH_K, ASH_B, ash_c), ((1, 0, 1), (1, 1, 0), (1, 0, 2), (1, 0, 3)), True),
            ((ASH, ASH_K, ASH_B, ash_c), ((1, 0, 1), (1, 1, 0), (1, 0, 3), (1, 0, 2)), False),
            ((ASH_ELM, changed(ASH_ELM, 4, 5)), ((1, 0, 1), (2, 0, 2)), False),
        ):
            self.assertIs(are_fair(books, value), wanted, (books, value))
            self.assertIs(are_fair(books=books, marks=value), wanted)

    def test_any_marks(self):
        chance = random.Random(1)
        found = {}
        for _ in range(8000):
            books = any_list(chance, 3)
            value = tuple(
                (chance.randint(1, len(one[0])), chance.randint(0, 1), chance.choice((0, 0, 0, 0, 1, 1, 2))) for one in books
            )
            part, fair = told_part(books, value), told_fair(books, value)
            self.assertIs(do_part(books, value), part)
            self.assertIs(are_fair(books, value), fair)
            if fair:
                self.assertEqual(cost_of(books, value), told_cost(books, value))
            else:
                self.assertIs(type(error_of(cost_of, books, value)), InvalidMarks)
            found[part, fair] = found.get((part, fair), 0) + (len(books) > 1)
        self.assertGreater(min(found.values()), 20, found)
        self.assertEqual(len(found), 4)

    def test_what_are_no_marks(self):
        for function in (do_part, are_fair, cost_of):
            for books in ((RAIN,), (RAIN, FOG)):
                for value in NO_MARKS + ODD:
                    for whole in (value, (value,) * len(books), [value] * len(books), ((1, 0, 0),) * 3):
                        error = error_of(function, books, whole)
                        self.assertIs(type(error), InvalidMarks, whole)
                        self.assertIs(error.value, whole)
            error = error_of(function, (), None)
            self.assertIs(type(error), InvalidMarks)


class TestCost(unittest.TestCase):

    def test_costs(self):
        self.assertEqual(cost_of((ASH,), ((1, 0, 0),)), (0, 1, ((1, 0),)))
        self.assertEqual(cost_of((ASH, ASH_B), ((1, 1, 1), (1, 1, 2))), (1, 1, ((1, 1),)))
        self.assertEqual(
            cost_of(books=(SNOW, ASH, RAIN, ASH_B), marks=((3, 1, 0), (1, 0, 1), (2, 0, 0), (1, 0, 2))),
            (1, 6, ((3, 1), (1, 0), (2, 0))),
        )

    def test_marks_that_do_not_part_have_a_cost_too(self):
        self.assertIs(do_part((ASH, ASH_K), ((1, 0, 0), (1, 0, 0))), False)
        self.assertEqual(cost_of((ASH, ASH_K), ((1, 0, 0), (1, 0, 0))), (0, 2, ((1, 0), (1, 0))))

    def test_marks_that_are_not_fair_have_none(self):
        for books, value in (((ASH,), ((1, 0, 1),)), ((ASH, ASH_B), ((1, 0, 2), (1, 0, 1)))):
            error = error_of(cost_of, books, value)
            self.assertIs(type(error), InvalidMarks)
            self.assertIs(error.value, value)


class TestLeastMarks(unittest.TestCase):

    def test_lists_by_hand(self):
        for books, wanted in (
            ((), ()),
            ((SNOW,), ((1, 0, 0),)),
            ((ASH, ASH_B), ((1, 0, 1), (1, 0, 2))),
            ((CLOUDS, STORMS), ((1, 0, 1), (1, 0, 2))),
            ((ASH, ASH_K), ((1, 0, 0), (1, 1, 0))),
            ((ASH_K, ASH), ((1, 0, 0), (1, 1, 0))),
            ((ASH, ASH_K, ASH_B), ((1, 0, 1), (1, 1, 0), (1, 0, 2))),
            ((ASH, ASH_ELM), ((1, 0, 0), (1, 0, 0))),
            ((ASH_ELM, ASH_OAK), ((1, 0, 0), (2, 0, 0))),
            ((ASH_ELM, ASH_ELM_OAK), ((1, 0, 0), (2, 0, 0))),
            ((ASH_ELM_OAK, ASH_ELM), ((1, 0, 0), (2, 0, 0))),
            ((ASH_ELM, ASH_OAK, ASH_ELM_OAK), ((1, 0, 0), (2, 0, 0), (2, 0, 0))),
            ((ASH, changed(ASH_K, 1, 2002)), ((1, 0, 0), (1, 0, 0))),
            # Of two with one family each, one must show its given; more names do not help it.
            ((book(2001, "Ash J"), book(2001, "Ash K"), book(2001, "Ash L")), ((1, 0, 0), (1, 1, 0), (1, 1, 0))),
            # One name more is less than a given.
            ((book(2001, "Ash J", "Elm K"), book(2001, "Ash K", "Elm K")), ((1, 0, 0), (2, 0, 0))),
            (
                tuple(book(2001, "Ash J", "Elm K", f"Oak {sign}") for sign in "ABCD"),
                ((1, 0, 0), (1, 1, 0), (2, 0, 0), (3, 0, 0)),
            ),
        ):
            self.assertEqual(least_marks(books), wanted)
            self.assertEqual(least_marks(books=books), wanted)

    def test_least_of_all_fair_marks_that_part(self):
        chance = random.Random(2)
        sizes = []
        for _ in range(120):
            books = any_list(chance, 5)
            parting = [value for value in all_fair(books) if told_part(books, value)]
            costs = [told_cost(books, value) for value in parting]
            found = least_marks(books)
            self.assertEqual(told_cost(books, found), min(costs))
            self.assertEqual([value for value, cost in zip(parting, costs) if cost == min(costs)], [found])
            self.assertTrue(are_marks(books, found) and do_part(books, found) and are_fair(books, found))
            self.assertEqual(cost_of(books, found), min(costs))
            sizes.append(len(books))
        self.assertGreater(sizes.count(5), 25)

    def test_all_names_and_givens_part_each_list(self):
        chance = random.Random(3)
        for _ in range(200):
            books = any_list(chance, 8)
            whole = [None] * len(books)
            for lot in told_lots(books):
                for c, at in enumerate(lot, len(lot) > 1):
                    whole[at] = (len(books[at][0]), 1, c)
            self.assertTrue(do_part(books, tuple(whole)) and are_fair(books, tuple(whole)))
            self.assertLessEqual(cost_of(books, least_marks(books)), cost_of(books, tuple(whole)))

    def test_a_book_more_or_less(self):
        chance = random.Random(4)
        others = 0
        for _ in range(400):
            books = any_list(chance, 8)
            if books:
                at = chance.randrange(len(books))
                one, rest = books[at], books[:at] + books[at + 1:]
                before = dict(zip(books, least_marks(books)))
                after = dict(zip(rest, least_marks(rest)))
                for other in rest:
                    if (other[0][0][0], other[1]) != (one[0][0][0], one[1]):
                        self.assertEqual(before[other], after[other])
                        others += 1
        self.assertGreater(others, 500)

    def test_the_largest_lists(self):
        chance = random.Random(5)
        rows = [[book(2001, "Ash J", "Elm K", f"Oak {sign}") for sign in "ABCDEF"]]
        rows += [[book(2001, "Ash J", f"Elm {sign}", "Oak A") for sign in "ABCDEF"]]
        rows += [[book(2001, f"Ash {sign}", "Elm J", "Oak A") for sign in "ABCDEF"]]
        rows += [[book(2001, "Ashenfel J", f"Elm {'A' * many}", "Oakfores ABCDEFGH") for many in range(1, 7)]]
        for row in rows:
            books = tuple(row) + (SNOW, changed(SNOW, 4, 5))
            for _ in range(10):
                found = least_marks(books)
                self.assertTrue(do_part(books, found) and are_fair(books, found))
                books = tuple(chance.sample(books, len(books)))
        self.assertEqual(least_marks(tuple(rows[0])), ((1, 0, 0), (1, 1, 0), (2, 0, 0), (2, 1, 0), (3, 0, 0), (3, 1, 0)))
        many = tuple(changed(changed(ASH, 2, "A" + "b" * 29), 4, number) for number in range(1, 7))
        self.assertTrue(is_list(many))
        self.assertEqual(least_marks(many), tuple((1, 0, c) for c in range(1, 7)))

    def test_what_is_no_list(self):
        for books in NO_LISTS + tuple(value for value in ODD if value != ()):
            for function, more in (
                (least_marks, ()), (labels, ()), (book_by, ("Ash 2001",)), (book_by, (None,)), (marks_changed, ((),)),
                (marks_changed, (None,)),
            ):
                error = error_of(function, books, *more)
                self.assertIs(type(error), InvalidList)
                self.assertIs(error.value, books)
            error = error_of(marks_changed, BOOKS, books)
            self.assertIs(type(error), InvalidList)
            self.assertIs(error.value, books)


class TestLabels(unittest.TestCase):

    def test_ordinary_labels(self):
        self.assertEqual(labels(()), ())
        self.assertEqual(labels(BOOKS), ("Ash + 2001", "Chall 1998a", "Chall 1998b", "Ash + 1000", "Ash 2999"))
        self.assertEqual(labels(books=(ASH, ASH_K, ASH_B)), ("Ash 2001a", "Ash K. 2001", "Ash 2001b"))

    def test_labels_by_least_marks(self):
        chance = random.Random(6)
        for _ in range(300):
            books = any_list(chance, 8)
            found = labels(books)
            self.assertEqual(list(found), told_labels(books, least_marks(books)))
            self.assertEqual(len(set(found)), len(books))
            for at, text in enumerate(found):
                self.assertEqual(book_by(books, text), at)

    def test_book_by(self):
        self.assertEqual(book_by(BOOKS, "Chall 1998b"), 2)
        self.assertEqual(book_by(books=BOOKS, text="Ash + 2001"), 0)
        for text in (
            "", "Ash 2001", "Chall 1998", "Chall 1998c", "Ash + 2001 ", " Ash + 2001", "ash + 2001", "Ash +  2001",
            ("Ash + 2001",), ["Ash + 2001"], 0, 2, True, None, RAIN, BOOKS, labels(BOOKS),
        ) + ODD:
            for books in (BOOKS, ()):
                error = error_of(book_by, books, text)
                self.assertIs(type(error), Undefined)
                self.assertEqual(error.what, "label")


class TestMarksChanged(unittest.TestCase):

    def test_lists_by_hand(self):
        for books, others, wanted in (
            ((), (), ()), (BOOKS, BOOKS, ()), (BOOKS, BOOKS[::-1], (
                (CLOUDS, (1, 0, 1), (1, 0, 2)), (STORMS, (1, 0, 2), (1, 0, 1)),
            )),
            ((ASH,), (ASH_K,), ()), ((ASH,), (), ()), ((), (ASH,), ()),
            ((ASH,), (ASH, ASH_K), ()), ((ASH,), (ASH_K, ASH), ((ASH, (1, 0, 0), (1, 1, 0)),)),
            ((ASH,), (ASH_B, ASH), ((ASH, (1, 0, 0), (1, 0, 2)),)),
            ((ASH, ASH_B), (ASH,), ((ASH, (1, 0, 1), (1, 0, 0)),)),
            ((ASH_B, ASH, ASH_K), (ASH_K, ASH, ASH_B), (
                (ASH_B, (1, 0, 1), (1, 1, 2)), (ASH, (1, 0, 2), (1, 1, 1)), (ASH_K, (1, 1, 0), (1, 0, 0)),
            )),
            ((ASH_ELM_OAK, ASH_ELM), (ASH_ELM,), ((ASH_ELM, (2, 0, 0), (1, 0, 0)),)),
        ):
            self.assertEqual(marks_changed(books, others), wanted)
            self.assertEqual(marks_changed(others=others, books=books), wanted)

    def test_any_lists(self):
        chance = random.Random(7)
        many = 0
        for _ in range(400):
            whole = any_list(chance, 8)
            books = tuple(chance.sample(whole, chance.randint(0, len(whole))))
            others = tuple(chance.sample(whole, chance.randint(0, len(whole))))
            before, after = dict(zip(books, least_marks(books))), dict(zip(others, least_marks(others)))
            wanted = [(one, before[one], after[one]) for one in books if one in after and before[one] != after[one]]
            many += len(wanted)
            self.assertEqual(marks_changed(books, others), tuple(wanted))
        self.assertGreater(many, 100)

    def test_the_first_wrong_list_is_told(self):
        error = error_of(marks_changed, None, [])
        self.assertIs(type(error), InvalidList)
        self.assertIsNone(error.value)


class TestPlaces(unittest.TestCase):

    def test_all_stand_in_their_module(self):
        for name in (
            "stem", "label", "are_marks", "do_part", "are_fair", "cost_of", "least_marks", "labels", "book_by",
            "marks_changed",
        ):
            self.assertEqual(getattr(marks, name).__module__, "ibidem.marks")


if __name__ == "__main__":
    unittest.main()
