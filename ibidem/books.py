"""Books, lists of books and the shapes of books."""

from ibidem.errors import InvalidBook, InvalidList
from ibidem.kinds import CAPITALS, SMALL, is_integer, is_made_of

MOST_NAMES = 3
FIRST_YEAR = 1000
LAST_YEAR = 2999
LAST_VOLUME = 999

SHAPES = (
    (1, 0, 0), (1, 0, 1), (1, 1, 0), (1, 1, 1),
    (2, 0, 0), (2, 0, 1), (2, 1, 0), (2, 1, 1),
    (3, 0, 0), (3, 0, 1), (3, 1, 0), (3, 1, 1),
)


def is_book(value):
    """Whether any value is a book (names, year, title, place, volume)."""
    if not isinstance(value, tuple) or len(value) != 5:
        return False
    names, year, title, place, volume = value
    return (
        _are_names(names)
        and _is_within(year, FIRST_YEAR, LAST_YEAR)
        and _is_title(title)
        and (place is None or _is_family(place))
        and (volume is None or _is_within(volume, 1, LAST_VOLUME))
    )


def is_list(value):
    """Whether any value is a tuple of books, all unlike."""
    if not isinstance(value, tuple) or not all(is_book(book) for book in value):
        return False
    return len(set(value)) == len(value)


def shape_of(book):
    """How many names the book has, and 1 or 0 for its place and its volume."""
    check_book(book)
    names, place, volume = book[0], book[3], book[4]
    return (len(names), int(place is not None), int(volume is not None))


def check_book(value):
    """Raise InvalidBook for any value that is no book."""
    if not is_book(value):
        raise InvalidBook(value)


def check_list(value):
    """Raise InvalidList for any value that is no list."""
    if not is_list(value):
        raise InvalidList(value)


def _are_names(value):
    if not isinstance(value, tuple) or not 1 <= len(value) <= MOST_NAMES:
        return False
    return all(_is_name(pair) for pair in value)


def _is_name(value):
    if not isinstance(value, tuple) or len(value) != 2:
        return False
    family, given = value
    return _is_family(family) and _is_word(given, CAPITALS)


def _is_family(value):
    if not isinstance(value, str):
        return False
    return _is_word(value[:1], CAPITALS) and is_made_of(value[1:], SMALL)


def _is_title(value):
    if not isinstance(value, str):
        return False
    words = value.split(" ")
    return _is_family(words[0]) and all(_is_word(word, SMALL) for word in words[1:])


def _is_word(value, signs):
    return value != "" and is_made_of(value, signs)


def _is_within(value, least, most):
    return is_integer(value) and least <= value <= most
