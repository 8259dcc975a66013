"""A desk: books and a style, led by lines, and back again."""

from ibidem.apart import is_apart
from ibidem.errors import InvalidNumber, NothingToUndo, Undefined
from ibidem.lines import word_and_values
from ibidem.marks import labels
from ibidem.reading import read_list
from ibidem.setting import set_list
from ibidem.shelving import check_letters
from ibidem.styles import check_style
from ibidem.told import told

MOST_BOOKS = 8
DEEDS = ("add", "drop", "change", "style")


class Desk:
    """Books, a style and the lines of the deeds that led to them."""

    def __init__(self, style, letters):
        check_style(style)
        check_letters(letters)
        self.books = ()
        self.style = style
        self.lines = ()
        self._letters = letters
        # Books, style and lines as they were ahead of each deed that is done,
        # and as they were behind each that is undone.
        self._done = []
        self._undone = []

    def run(self, line):
        """Do one line; the text that it answers."""
        word, values = word_and_values(line)
        if word in DEEDS:
            return self._do(line, word, values)
        if word == "undo":
            return self._go(word, self._done, self._undone)
        if word == "redo":
            return self._go(word, self._undone, self._done)
        if word == "show":
            return set_list(self.style, self.books, self._letters)
        if word == "labels":
            return "".join([text + "\n" for text in labels(self.books)])
        return told(read_list(self.style, values[0].replace("|", "\n")))

    def _do(self, line, word, values):
        books, style, answer = _deed(self.books, self.style, word, values)
        self._done.append((self.books, self.style, self.lines))
        self._undone = []
        self.books = books
        self.style = style
        self.lines = (*self.lines, line)
        return answer

    def _go(self, word, states, others):
        """Take up the last of the states, and leave the one of now with the others."""
        if len(states) == 0:
            raise NothingToUndo(word)
        others.append((self.books, self.style, self.lines))
        self.books, self.style, self.lines = states.pop()
        return ""


def replayed(style, letters, lines):
    """A desk on which the lines were run."""
    desk = Desk(style, letters)
    for line in lines:
        desk.run(line)
    return desk


def _deed(books, style, word, values):
    """The books and the style behind the deed, and its answer."""
    if word == "style":
        return (books, values[0], "apart" if is_apart(values[0]) else "mixed")
    if word == "add":
        more = _with(books, values[0])
        return (more, style, labels(more)[-1])
    if values[0] >= len(books):
        raise InvalidNumber(values[0])
    others = _without(books, values[0]) if word == "drop" else _changed(books, values[0], values[1])
    return (others, style, str(_labelled_anew(books, others)))


def _with(books, book):
    if book in books or len(books) >= MOST_BOOKS:
        raise Undefined("book")
    return (*books, book)


def _without(books, number):
    return books[:number] + books[number + 1:]


def _changed(books, number, book):
    if book in _without(books, number):
        raise Undefined("book")
    return (*books[:number], book, *books[number + 1:])


def _labelled_anew(books, others):
    """How many books of both lists have another label in the others."""
    texts = dict(zip(books, labels(books)))
    return len([book for book, text in zip(others, labels(others)) if texts.get(book, text) != text])
