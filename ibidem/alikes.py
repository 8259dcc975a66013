"""Whether two styles set every book alike."""

from ibidem.books import SHAPES
from ibidem.setting import set_entry
from ibidem.styles import check_style, row_of

# Where two rows of tokens first differ, one of these books shows it: within each no two
# parts begin with the same sign, a given of two capitals is unlike itself dotted, and
# the two have no first signs in common, so in one of them no part begins as the mark does.
FULL = (
    ((("A", "BB"), ("C", "DD"), ("E", "FF")), 1000, "G", "H", 3),
    ((("I", "JJ"), ("K", "LL"), ("M", "NN")), 2000, "O", "P", 4),
)


def unlike_shape(one, other):
    """The first shape for which the styles have unlike tokens, None without one."""
    check_style(one)
    check_style(other)
    for shape in SHAPES:
        if row_of(one, shape) != row_of(other, shape):
            return shape
    return None


def unlike_book(one, other):
    """A book of the first shape with unlike tokens that the styles set unlike, None without one."""
    shape = unlike_shape(one, other)
    if shape is None:
        return None
    book, another = [_reduced(full, shape) for full in FULL]
    return book if set_entry(one, book) != set_entry(other, book) else another


def _reduced(book, shape):
    """The book without what a book of the shape does not have."""
    names, year, title, place, volume = book
    many, placed, counted = shape
    return (names[:many], year, title, place if placed == 1 else None, volume if counted == 1 else None)
