"""Lines read back as the books of which a style sets them."""

from ibidem.books import SHAPES
from ibidem.errors import InvalidText, Undefined
from ibidem.inside import ends_from
from ibidem.styles import hides, row_of, shown_by


def read_entry(style, text):
    """All books that the style sets as this text, ascending by shape, then as tuples."""
    return _read(_rows_of(style), text)


def read_list(style, text):
    """The books of the lines of the text, each of which is read as just one."""
    rows = _rows_of(style)
    found = []
    at = 0
    while at < len(text):
        end = text.find("\n", at)
        books = () if end == -1 else _read(rows, text[at:end])
        if len(books) != 1 or books[0] in found:
            raise InvalidText(text, at)
        found.append(books[0])
        at = end + 1
    return tuple(found)


def book_of(shape, words):
    """The book of the shape that has these words, by the parts that it has."""
    many, placed, counted = shape
    return (
        tuple([(words["family", number], words["given", number]) for number in range(many)]),
        int(words[("year",)]),
        words[("title",)],
        words[("place",)] if placed == 1 else None,
        int(words[("volume",)]) if counted == 1 else None,
    )


def word_of(token, text):
    """What the book has where the token shows this text."""
    return text.replace(".", "") if token[0] == "dotted" else text


def _rows_of(style):
    if hides(style):
        raise Undefined("hidden")
    return [(shape, row_of(style, shape)) for shape in SHAPES]


def _read(rows, text):
    found = []
    for shape, row in rows:
        fields = [shown_by(token) for token in row if token[0] != "sign"]
        books = [book_of(shape, dict(zip(fields, words))) for words in _readings(row, text)]
        found.extend(sorted(books))
    return tuple(found)


def _readings(row, text):
    """For each way to read the whole text by the row: the words of its fields."""
    starts = _starts(row, text)
    readings = {len(text): [()]}
    for number in reversed(range(len(row))):
        readings = _readings_ahead(row[number], text, starts[number], readings)
    return readings.get(0, [])


def _starts(row, text):
    """For each token the places, ascending, to which those ahead of it lead from 0."""
    found = []
    places = [0]
    for token in row:
        found.append(places)
        places = sorted({end for start in places for end in ends_from(token, text, start)})
    return found


def _readings_ahead(token, text, starts, readings):
    """By each start that leads on: the readings of the token and of all behind it."""
    # Only starts that a reading from 0 comes to and ends that lead to the end of
    # the text are gone through: the work hangs on how many readings there are.
    found = {}
    for start in starts:
        ways = []
        for end in ends_from(token, text, start):
            word = () if token[0] == "sign" else (word_of(token, text[start:end]),)
            ways.extend([word + rest for rest in readings.get(end, [])])
        if ways:
            found[start] = ways
    return found
