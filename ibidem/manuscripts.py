"""Manuscripts: words and cites of a list's books, set as a text and read back."""

from ibidem.books import check_list
from ibidem.errors import InvalidParts, InvalidText, Undefined
from ibidem.kinds import is_integer, is_sign, is_text
from ibidem.marks import labels

AGAIN = "ib."
BETWEEN = "; "


def is_manuscript(books, value):
    """Whether any value is a manuscript for the list: a tuple of words and cites."""
    check_list(books)
    return _is_manuscript(books, value)


def set_text(books, manuscript):
    """The words as they are, and the labels of what is cited in brackets."""
    _check_manuscript(books, manuscript)
    texts = labels(books)
    found = []
    last = ()
    for word, what in manuscript:
        if word == "words":
            found.append(what)
        else:
            inside = AGAIN if what == last else BETWEEN.join([texts[number] for number in what])
            found.append("[" + inside + "]")
            last = what
    return "".join(found)


def read_text(books, text):
    """The manuscript whose text this is."""
    check_list(books)
    numbers = {word: number for number, word in enumerate(labels(books))}
    plain = _plain_end(text)
    found = []
    last = ()
    at = 0
    while at < plain:
        if text[at] == "[":
            end = text.find("]", at)
            last = () if end == -1 else _cited_by(text[at + 1:end], numbers, last)
            if last == ():
                raise InvalidText(text, at)
            found.append(("cite", last))
            at = end + 1
        else:
            end = text.find("[", at)
            words = text[at:] if end == -1 else text[at:end]
            found.append(("words", words))
            at += len(words)
    if plain < len(text):
        raise InvalidText(text, plain)
    return tuple(found)


def cited(books, manuscript):
    """The numbers that are cited, in the order of first citing."""
    _check_manuscript(books, manuscript)
    return _cited(manuscript)


def renumbered(books, manuscript, others):
    """The manuscript with the same books cited by their numbers in the others."""
    check_list(books)
    check_list(others)
    _check_manuscript(books, manuscript)
    if not all(books[number] in others for number in _cited(manuscript)):
        raise Undefined("book")
    return _renumbered(books, manuscript, others)


def without_uncited(books, manuscript):
    """The list of those books that are cited, and the manuscript for this list."""
    _check_manuscript(books, manuscript)
    numbers = _cited(manuscript)
    kept = tuple([book for number, book in enumerate(books) if number in numbers])
    return (kept, _renumbered(books, manuscript, kept))


def _check_manuscript(books, value):
    check_list(books)
    if not _is_manuscript(books, value):
        raise InvalidParts(value)


def _is_manuscript(books, value):
    if not isinstance(value, tuple) or not all(_is_part(books, part) for part in value):
        return False
    return not any(value[at - 1][0] == value[at][0] == "words" for at in range(1, len(value)))


def _is_part(books, value):
    if not isinstance(value, tuple) or len(value) != 2:
        return False
    word, what = value
    if word == "words":
        return is_text(what) and what != "" and "[" not in what
    return word == "cite" and _are_numbers(books, what)


def _are_numbers(books, value):
    """Whether any value is a tuple of unlike numbers of books of the list, at least of one."""
    if not isinstance(value, tuple) or not all(is_integer(part) and 0 <= part < len(books) for part in value):
        return False
    return 0 < len(value) == len(set(value))


def _plain_end(text):
    """The place of the first character that is no sign, the text's length without one."""
    for at, sign in enumerate(text):
        if not is_sign(sign):
            return at
    return len(text)


def _cited_by(inside, numbers, last):
    """The numbers of the books that the inside of a cite tells, () if it may not stand there."""
    # Without a cite ahead, last is (): then this is the answer for it, too.
    if inside == AGAIN:
        return last
    words = inside.split(BETWEEN)
    found = tuple([numbers[word] for word in words if word in numbers])
    if len(found) < len(words) or len(set(found)) < len(found) or found == last:
        return ()
    return found


def _cited(manuscript):
    found = {}
    for word, what in manuscript:
        if word == "cite":
            for number in what:
                found[number] = True
    return tuple(found)


def _renumbered(books, manuscript, others):
    found = []
    for word, what in manuscript:
        if word == "cite":
            found.append((word, tuple([others.index(books[number]) for number in what])))
        else:
            found.append((word, what))
    return tuple(found)
