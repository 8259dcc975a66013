"""Books set as lines by a style."""

from ibidem.books import check_book, shape_of
from ibidem.shelving import ordered
from ibidem.styles import check_style, row_of

PART_AT = {"year": 1, "title": 2, "place": 3, "volume": 4}


def set_entry(style, book):
    """The line, without a line feed, as which the style sets the book."""
    check_style(style)
    check_book(book)
    return _entry(style, book)


def set_list(style, books, letters):
    """The entries of the books in the order of letters, a line feed behind each."""
    check_style(style)
    return "".join([_entry(style, book) + "\n" for book in ordered(books, letters)])


def dotted(given):
    """The given with a dot behind each capital."""
    return "".join([capital + "." for capital in given])


def _entry(style, book):
    return "".join([_words_of(token, book) for token in row_of(style, shape_of(book))])


def _words_of(token, book):
    kind, names = token[0], book[0]
    if kind == "sign":
        return token[1]
    if kind == "family":
        return names[token[1]][0]
    if kind == "given":
        return names[token[1]][1]
    if kind == "dotted":
        return dotted(names[token[1]][1])
    return str(book[PART_AT[kind]])
