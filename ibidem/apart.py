"""Whether a style sets every two unlike books unlike: papers that show it, books where it does not."""

from ibidem.errors import Undefined
from ibidem.kinds import is_integer
from ibidem.pairs import Pairs
from ibidem.setting import set_entry
from ibidem.shortest import books_hidden, books_shown
from ibidem.styles import check_style, hides


def apart_holds(style, paper):
    """Whether the style hides nothing and any value is one of its papers."""
    if hides(style):
        return False
    pairs = Pairs(style)
    codes = _codes_of(pairs, paper)
    if codes is None:
        return False
    firsts = pairs.of_starts() + pairs.of_two_steps()
    return all(code in codes for code in firsts) and all(_may_stand(pairs, code, codes) for code in codes)


def apart_paper(style):
    """The least paper of the style."""
    if hides(style):
        raise Undefined("paper")
    pairs = Pairs(style)
    codes = _least_codes(pairs)
    if codes is None:
        raise Undefined("paper")
    numbers = [pairs.numbers_of(code) for code in sorted(codes)]
    return tuple([(pairs.spots[one], pairs.spots[other]) for one, other in numbers])


def is_apart(style):
    """Whether the style sets every two unlike books unlike."""
    return not hides(style) and _least_codes(Pairs(style)) is not None


def mixed_length(style):
    """The least length of a line as which two unlike books are set, None if the style is apart."""
    books = mixed_books(style)
    return None if books is None else len(set_entry(style, books[0]))


def mixed_books(style):
    """Two unlike books that are set as a line of the least length, None if the style is apart."""
    check_style(style)
    books = books_hidden(style)
    most = None if books is None else len(set_entry(style, books[0])) - 1
    shorter = books_shown(style, most)
    return books if shorter is None else shorter


def _least_codes(pairs):
    """By True the codes of all pairs of the least paper, None if there is no paper."""
    waiting = pairs.of_starts() + pairs.of_two_steps()
    found = {code: True for code in waiting}
    while waiting:
        code = waiting.pop()
        # From a spot, twice the same, signs lead on to a final one, twice the same.
        if pairs.is_twice(code) or pairs.is_final(code):
            return None
        for _, end in pairs.steps_from(code):
            if end not in found:
                found[end] = True
                waiting.append(end)
    return found


def _may_stand(pairs, code, codes):
    """Whether a pair with this code may be in a paper with these codes and no others."""
    return not pairs.is_final(code) and all(end in codes for _, end in pairs.steps_from(code))


def _codes_of(pairs, paper):
    """By True the codes of the pairs of spots, strictly ascending, of any value; None if it is no tuple of such."""
    if not isinstance(paper, tuple):
        return None
    numbers = {spot: number for number, spot in enumerate(pairs.spots)}
    found = {}
    last = -1
    for value in paper:
        code = _code_at(pairs, numbers, value)
        if code is None or code <= last:
            return None
        found[code] = True
        last = code
    return found


def _code_at(pairs, numbers, value):
    """The code of any value that is a pair of spots, the first at most the second; otherwise None."""
    if not isinstance(value, tuple) or len(value) != 2 or not all(_is_like_spot(spot) for spot in value):
        return None
    if value[0] not in numbers or value[1] not in numbers or value[0] > value[1]:
        return None
    return pairs.code_of(numbers[value[0]], numbers[value[1]])


def _is_like_spot(value):
    """Whether any value has the form of a spot, of some style."""
    return _are_three(value) and _are_three(value[0]) and all(is_integer(part) for part in (*value[0], *value[1:]))


def _are_three(value):
    return isinstance(value, tuple) and len(value) == 3
