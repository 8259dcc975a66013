"""Claims about styles and lists, and papers that show them."""

from ibidem.alikes import unlike_shape
from ibidem.apart import apart_holds, apart_paper, is_apart, mixed_books, mixed_length
from ibidem.errors import InvalidClaim, InvalidText, Refused
from ibidem.marks import are_fair, are_marks, do_part, least_marks
from ibidem.named import is_of_kind
from ibidem.reading import read_list
from ibidem.setting import set_entry, set_list
from ibidem.shelving import ordered
from ibidem.styles import hides

# By the word of a claim the kinds of its parts; the marks are those of the list ahead.
KINDS = {
    "apart": ("style",),
    "mixed": ("style", "book", "book"),
    "shortest": ("style", "number"),
    "alike": ("style", "style"),
    "unlike": ("style", "style", "book"),
    "parts": ("list", "marks"),
    "least": ("list", "marks"),
    "reads": ("style", "list", "letters"),
}


def is_claim(value):
    """Whether any value is a claim, true or not."""
    if not isinstance(value, tuple) or len(value) == 0 or not isinstance(value[0], str):
        return False
    word, parts = value[0], value[1:]
    if word not in KINDS or len(parts) != len(KINDS[word]):
        return False
    if not all(kind == "marks" or is_of_kind(kind, part) for kind, part in zip(KINDS[word], parts)):
        return False
    return _do_fit(word, parts)


def claim_holds(claim, paper):
    """Whether any value is a claim that is true, and any other one of its papers."""
    if not is_claim(claim):
        return False
    # A paper that holds shows the style apart without any search.
    if claim[0] == "apart":
        return apart_holds(claim[1], paper)
    return paper == () and _is_true(claim)


def seal_claim(claim):
    """A paper of the claim."""
    if not is_claim(claim):
        raise InvalidClaim(claim)
    if not _is_true(claim):
        raise Refused(claim)
    return apart_paper(claim[1]) if claim[0] == "apart" else ()


def answer_of(style):
    """The true claim that the style is apart, or mixed."""
    books = mixed_books(style)
    return ("apart", style) if books is None else ("mixed", style, *books)


def _do_fit(word, parts):
    """Whether parts of these kinds may stand beside each other in a claim."""
    if word == "mixed":
        return parts[1] != parts[2]
    if word == "reads":
        return not hides(parts[0])
    if word in ("parts", "least"):
        return are_marks(parts[0], parts[1])
    return True


def _is_true(claim):
    word = claim[0]
    if word == "apart":
        return is_apart(claim[1])
    if word == "mixed":
        return set_entry(claim[1], claim[2]) == set_entry(claim[1], claim[3])
    if word == "shortest":
        return mixed_length(claim[1]) == claim[2]
    if word == "alike":
        return unlike_shape(claim[1], claim[2]) is None
    if word == "unlike":
        return set_entry(claim[1], claim[3]) != set_entry(claim[2], claim[3])
    if word == "parts":
        return are_fair(claim[1], claim[2]) and do_part(claim[1], claim[2])
    if word == "least":
        return least_marks(claim[1]) == claim[2]
    return _is_read_back(claim[1], claim[2], claim[3])


def _is_read_back(style, books, letters):
    try:
        found = read_list(style, set_list(style, books, letters))
    except InvalidText:
        return False
    return found == ordered(books, letters)
