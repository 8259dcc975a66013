"""Marks, by which each book of a list has a short label of its own."""

from ibidem.books import check_book, check_list
from ibidem.errors import InvalidMarks, Undefined
from ibidem.kinds import SMALL, is_integer
from ibidem.lots import least_shown, lots_of, stem_of


def stem(book, k, g):
    """The first k names of the book, with their givens if g is 1, and the year."""
    check_book(book)
    if not _is_mark(book, (k, g, 0)):
        raise InvalidMarks((k, g))
    return stem_of(book, k, g)


def label(book, mark):
    """The stem that the mark tells and its letter, if it has one."""
    check_book(book)
    if not _is_mark(book, mark):
        raise InvalidMarks(mark)
    return _label(book, mark)


def are_marks(books, value):
    """Whether any value is marks of the list: a tuple of a mark for each of its books."""
    check_list(books)
    return _are_marks(books, value)


def do_part(books, marks):
    """Whether all labels are unlike, and the stems of books with unlike names or years, too."""
    _check_marks(books, marks)
    found = {}
    for book, (k, g, _) in zip(books, marks):
        if found.setdefault(stem_of(book, k, g), book[:2]) != book[:2]:
            return False
    texts = [_label(book, mark) for book, mark in zip(books, marks)]
    return len(set(texts)) == len(texts)


def are_fair(books, marks):
    """Whether each lot has one stem, and letters in sequence if it has several books."""
    _check_marks(books, marks)
    return _are_fair(books, marks)


def cost_of(books, marks):
    """How many givens and how many names the lots show, and what each of them shows."""
    check_list(books)
    if not _are_marks(books, marks) or not _are_fair(books, marks):
        raise InvalidMarks(marks)
    shown = [marks[lot[0]][:2] for lot in lots_of(books)]
    return (sum(g for _, g in shown), sum(k for k, _ in shown), tuple(shown))


def least_marks(books):
    """The fair marks that part the list with the least cost."""
    check_list(books)
    return _least_marks(books)


def labels(books):
    """The labels of the books by least_marks."""
    check_list(books)
    return _labels(books)


def book_by(books, text):
    """The number of the book with this label."""
    check_list(books)
    texts = _labels(books)
    if text not in texts:
        raise Undefined("label")
    return texts.index(text)


def marks_changed(books, others):
    """The books in both lists whose least marks in these are unlike, each with both marks."""
    check_list(books)
    check_list(others)
    found = dict(zip(others, _least_marks(others)))
    pairs = [(book, mark, found.get(book, mark)) for book, mark in zip(books, _least_marks(books))]
    return tuple([(book, mark, other) for book, mark, other in pairs if mark != other])


def _check_marks(books, value):
    check_list(books)
    if not _are_marks(books, value):
        raise InvalidMarks(value)


def _is_mark(book, value):
    """Whether any value is a mark that the book may have."""
    if not isinstance(value, tuple) or len(value) != 3 or not all(is_integer(part) for part in value):
        return False
    k, g, c = value
    return 1 <= k <= len(book[0]) and g in (0, 1) and 0 <= c <= len(SMALL)


def _are_marks(books, value):
    if not isinstance(value, tuple) or len(value) != len(books):
        return False
    return all(_is_mark(book, mark) for book, mark in zip(books, value))


def _are_fair(books, marks):
    for lot in lots_of(books):
        first = marks[lot[0]][:2]
        if any(marks[number] != (*first, c) for number, c in zip(lot, _letters(lot))):
            return False
    return True


def _letters(lot):
    """The numbers of the letters of the lot's books."""
    return [0] if len(lot) == 1 else list(range(1, len(lot) + 1))


def _label(book, mark):
    k, g, c = mark
    return stem_of(book, k, g) + ("" if c == 0 else SMALL[c - 1])


def _least_marks(books):
    lots = lots_of(books)
    shown = least_shown([books[lot[0]] for lot in lots])
    found = {}
    for lot, pair in zip(lots, shown):
        for number, c in zip(lot, _letters(lot)):
            found[number] = (*pair, c)
    return tuple([found[number] for number in range(len(books))])


def _labels(books):
    return tuple([_label(book, mark) for book, mark in zip(books, _least_marks(books))])
