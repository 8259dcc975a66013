"""Styles mended by marks, so that they set unlike books unlike."""

from itertools import combinations

from ibidem.apart import is_apart
from ibidem.errors import InvalidMarks, InvalidNumber, Undefined
from ibidem.kinds import is_integer
from ibidem.styles import MOST_PIECES, check_style, hides, is_mark

MOST_MARKS = 3
MOST_MENDED = 2


def with_mending(style, marks, mending):
    """The style with marks put ahead of its pieces, or behind all, as the mending tells."""
    check_style(style)
    _check_marks(marks)
    if not _is_mending(style, marks, mending) or not _has_room(style, mending):
        raise Undefined("mending")
    return _mended(style, marks, mending)


def least_mending(style, marks, most):
    """The first mending of at most so many marks with which the style is apart, None without one."""
    check_style(style)
    _check_marks(marks)
    if not is_integer(most) or not 0 <= most <= MOST_MENDED:
        raise InvalidNumber(most)
    if hides(style):
        return None
    for many in range(most + 1):
        for mending in _mendings(style, marks, many):
            if is_apart(_mended(style, marks, mending)):
                return mending
    return None


def _check_marks(value):
    if not _are_marks(value):
        raise InvalidMarks(value)


def _are_marks(value):
    if not isinstance(value, (list, tuple)) or not 1 <= len(value) <= MOST_MARKS:
        return False
    return all(is_mark(mark) for mark in value) and len(set(value)) == len(value)


def _is_mending(style, marks, value):
    if not isinstance(value, tuple) or not all(_is_put(style, marks, pair) for pair in value):
        return False
    return all(value[at - 1][0] < value[at][0] for at in range(1, len(value)))


def _is_put(style, marks, value):
    """Whether any value is a pair of a place among the pieces and the number of a mark."""
    if not isinstance(value, tuple) or len(value) != 2 or not all(is_integer(part) for part in value):
        return False
    return 0 <= value[0] <= len(style[0]) and 0 <= value[1] < len(marks)


def _has_room(style, mending):
    return len(style[0]) + len(mending) <= MOST_PIECES


def _mendings(style, marks, many):
    """All mendings of so many marks, ascending."""
    places = range(len(style[0]) + 1)
    pairs = [(at, number) for at in places for number in range(len(marks))]
    found = list(combinations(pairs, many))
    return [mending for mending in found if _is_mending(style, marks, mending) and _has_room(style, mending)]


def _mended(style, marks, mending):
    pieces, shown = style
    put = {at: (("mark", marks[number]),) for at, number in mending}
    found = []
    for at, piece in enumerate(pieces):
        found.extend(put.get(at, ()))
        found.append(piece)
    found.extend(put.get(len(pieces), ()))
    return (tuple(found), shown)
