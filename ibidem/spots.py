"""Spots: how far a line of a shape is read, and where a sign leads."""

from ibidem.books import SHAPES
from ibidem.errors import Undefined
from ibidem.inside import is_enough, most_inside, next_inside
from ibidem.kinds import is_integer
from ibidem.styles import check_style, row_of


def spots_of(style):
    """All spots of the style, ascending."""
    check_style(style)
    found = []
    for shape in SHAPES:
        found.append((shape, -1, 0))
        for at, token in enumerate(row_of(style, shape)):
            found.extend([(shape, at, inside) for inside in range(1, most_inside(token) + 1)])
    return tuple(found)


def steps(style, spot, sign):
    """The spots, ascending, to which reading the sign leads from the spot."""
    row = _row_at(style, spot)
    shape, at, inside = spot
    found = []
    if at >= 0:
        found.extend(_entered(shape, at, next_inside(row[at], inside, sign)))
    if may_leave(row, at, inside) and at + 1 < len(row):
        found.extend(_entered(shape, at + 1, next_inside(row[at + 1], 0, sign)))
    return tuple(found)


def is_final(style, spot):
    """Whether a line of the spot's shape may end at the spot."""
    row = _row_at(style, spot)
    _, at, inside = spot
    return may_end(row, at, inside)


def may_leave(row, at, inside):
    """Whether the token is read so far that the next one may begin."""
    return at == -1 or is_enough(row[at], inside)


def may_end(row, at, inside):
    """Whether the row is read so far that its line may end."""
    return at + 1 == len(row) and may_leave(row, at, inside)


def _row_at(style, spot):
    check_style(style)
    if isinstance(spot, tuple) and len(spot) == 3 and spot[0] in SHAPES:
        row = row_of(style, spot[0])
        if _is_in(row, spot[1], spot[2]):
            return row
    raise Undefined("spot")


def _is_in(row, at, inside):
    if not is_integer(at) or not is_integer(inside):
        return False
    if at == -1:
        return inside == 0
    return 0 <= at < len(row) and 1 <= inside <= most_inside(row[at])


def _entered(shape, at, inside):
    return [] if inside is None else [(shape, at, inside)]
