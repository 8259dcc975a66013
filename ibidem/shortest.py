"""Unlike books that are set as one line, a line as short as can be."""

from ibidem.pairs import Pairs
from ibidem.reading import book_of, word_of
from ibidem.setting import set_entry
from ibidem.styles import hidden, parts_of, row_of, shown_by

# A shortest word of each part of a book, and another one of the same length.
WORDS = {"family": "A", "given": "A", "year": "1000", "title": "A", "place": "A", "volume": "1"}
OTHERS = {"family": "B", "given": "B", "year": "2000", "title": "B", "place": "B", "volume": "2"}


def books_hidden(style):
    """Two books of one shape, unlike in what the style hides alone, with a shortest line of such."""
    found = [(_filled(shape, {}), _filled(shape, {what: OTHERS[what[0]]})) for shape, what in hidden(style)]
    return min(found, key=lambda books: len(set_entry(style, books[0])), default=None)


def books_shown(style, most):
    """Two books, unlike in what the style shows or in shape, with a shortest line, of at most so many signs.

    None if there are none; most may be None, too, for lines of any length.
    """
    pairs = Pairs(style)
    came = {code: None for code in pairs.alone() + pairs.of_starts()}
    layer = list(came)
    length = 0
    while layer and (most is None or length <= most):
        for code in layer:
            if pairs.is_final(code):
                return _books_at(style, pairs, came, code)
        layer = _next_layer(pairs, came, layer)
        length += 1
    return None


def _next_layer(pairs, came, layer):
    """The codes to which one sign more leads, and that are new; they are told in came, with where from."""
    found = []
    for code in layer:
        for sign, end in pairs.steps_from(code):
            if end not in came:
                came[end] = (code, sign)
                found.append(end)
    return found


def _books_at(style, pairs, came, code):
    """The two books that the way to the code reads."""
    one, other = pairs.numbers_of(code)
    ones, others, text = [one], [other], ""
    while came[code] is not None:
        code, sign = came[code]
        one, other = _before(pairs, code, sign, (one, other))
        ones.append(one)
        others.append(other)
        text = sign + text
    return tuple([_book_read(style, [pairs.spots[number] for number in row[::-1]], text) for row in (ones, others)])


def _before(pairs, code, sign, ends):
    """The numbers of the code in that sequence in which the sign leads from them to these two ends."""
    one, other = pairs.numbers_of(code)
    moves = pairs.moves
    if ends[0] in moves[one].get(sign, ()) and ends[1] in moves[other].get(sign, ()):
        return one, other
    return other, one


def _book_read(style, spots, text):
    """The book whose entry, the text, the row of spots reads."""
    shape = spots[0][0]
    texts = {}
    for (_, at, _), sign in zip(spots[1:], text):
        texts[at] = texts.get(at, "") + sign
    words = {}
    for at, token in enumerate(row_of(style, shape)):
        words[shown_by(token)] = word_of(token, texts[at])
    return _filled(shape, words)


def _filled(shape, words):
    """The book of the shape with these words, and shortest ones for all other parts."""
    return book_of(shape, {part: words.get(part, WORDS[part[0]]) for part in parts_of(shape)})
