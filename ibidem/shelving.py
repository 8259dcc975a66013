"""Books in an order of told letters."""

from ibidem.books import check_book, check_list
from ibidem.errors import InvalidLetters
from ibidem.kinds import SMALL, is_made_of

MOST_LETTERS = 40


def is_letters(value):
    """Whether any value is letters: a told order of strings, a to z among them."""
    if not isinstance(value, tuple) or len(value) > MOST_LETTERS:
        return False
    if not all(_is_letter(part) for part in value):
        return False
    return len(set(value)) == len(value) and all(sign in value for sign in SMALL)


def ranks(word, letters):
    """The numbers in letters of the strings that the word is cut into."""
    check_letters(letters)
    return _cut(word, _numbered(letters))


def book_key(book, letters):
    """The tuple of five by which the book stands among others."""
    check_book(book)
    check_letters(letters)
    return _key(book, _numbered(letters))


def ordered(books, letters):
    """The list in ascending order of keys."""
    check_list(books)
    check_letters(letters)
    numbers = _numbered(letters)
    return tuple(sorted(books, key=lambda book: _key(book, numbers)))


def place_for(books, book, letters):
    """How many books of the list have a lesser key than the book."""
    check_list(books)
    check_book(book)
    check_letters(letters)
    numbers = _numbered(letters)
    key = _key(book, numbers)
    return len([other for other in books if _key(other, numbers) < key])


def check_letters(value):
    """Raise InvalidLetters for any value that is no letters."""
    if not is_letters(value):
        raise InvalidLetters(value)


def _is_letter(value):
    return is_made_of(value, SMALL) and 1 <= len(value) <= 2


def _numbered(letters):
    return {letter: number for number, letter in enumerate(letters)}


def _cut(word, numbers):
    small = word.lower()
    found = []
    at = 0
    while at < len(small):
        pair = small[at:at + 2]
        letter = pair if pair in numbers else small[at]
        found.append(numbers[letter])
        at += len(letter)
    return tuple(found)


def _key(book, numbers):
    names, year, title, place, volume = book
    return (
        tuple((_cut(family, numbers), given) for family, given in names),
        year,
        tuple(_cut(word, numbers) for word in title.split(" ")),
        () if place is None else (_cut(place, numbers),),
        () if volume is None else (volume,),
    )
