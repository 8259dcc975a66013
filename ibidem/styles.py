"""Styles, the tokens that they set and what they hide."""

from ibidem.books import SHAPES
from ibidem.errors import InvalidStyle, Undefined
from ibidem.kinds import is_integer, is_text

MOST_PIECES = 10
MOST_CHOSEN = 3
MOST_SIGNS = 3
MOST_GAP = 2
MOST_SHOWN = 3

FIELDS = (("names",), ("year",), ("title",), ("place",), ("volume",))


def is_style(value):
    """Whether any value is a style (pieces, shown)."""
    if not isinstance(value, tuple) or len(value) != 2:
        return False
    pieces, shown = value
    if not _are_pieces(pieces) or not _is_shown(shown):
        return False
    return all(_is_no_field_twice(pieces, shape) for shape in SHAPES)


def tokens(style, shape):
    """The tokens that the style sets for a book of the shape, in their sequence."""
    check_style(style)
    if shape not in SHAPES:
        raise Undefined("shape")
    return row_of(style, shape)


def hidden(style):
    """The pairs (shape, what) of all that no token of the shape shows."""
    check_style(style)
    found = []
    for shape in SHAPES:
        shown = [shown_by(token) for token in row_of(style, shape)]
        found.extend([(shape, what) for what in parts_of(shape) if what not in shown])
    return tuple(found)


def hides(style):
    """Whether the style leaves out anything of any shape."""
    return len(hidden(style)) > 0


def check_style(value):
    """Raise InvalidStyle for any value that is no style."""
    if not is_style(value):
        raise InvalidStyle(value)


def is_mark(value):
    """Whether any value is the text of a mark."""
    return value != "" and _is_short(value, MOST_SIGNS)


def row_of(style, shape):
    """What tokens returns, for a style and a shape that are known to be such."""
    pieces, shown = style
    found = []
    for piece in _plain_pieces(pieces, shape):
        found.extend(_tokens_of(piece, shown, shape))
    return tuple(found)


def shown_by(token):
    """What part of a book the token shows; a token that is a sign as it is."""
    return ("given", token[1]) if token[0] == "dotted" else token


def parts_of(shape):
    """All that books of the shape have: the tokens that show it, givens not dotted."""
    found = []
    for number in range(shape[0]):
        found.extend([("family", number), ("given", number)])
    found.extend([("year",), ("title",)])
    found.extend([(field,) for field in ("place", "volume") if _has(shape, field)])
    return found


def _are_pieces(value):
    if not isinstance(value, tuple) or not 1 <= len(value) <= MOST_PIECES:
        return False
    return all(_is_plain(piece) or _is_choice(piece) for piece in value)


def _is_plain(value):
    if not isinstance(value, tuple):
        return False
    return value in FIELDS or len(value) == 2 and value[0] == "mark" and is_mark(value[1])


def _is_choice(value):
    if not isinstance(value, tuple) or len(value) != 4:
        return False
    word, field, there, lacking = value
    return word == "if" and field in ("place", "volume") and _are_chosen(there) and _are_chosen(lacking)


def _are_chosen(value):
    if not isinstance(value, tuple) or len(value) > MOST_CHOSEN:
        return False
    return all(_is_plain(piece) for piece in value)


def _is_shown(value):
    if not isinstance(value, tuple) or len(value) != 7:
        return False
    given, dotted, gap, join, last, most, rest = value
    return (
        given in ("ahead", "behind", "none")
        and isinstance(dotted, bool)
        and _is_short(gap, MOST_GAP)
        and _is_short(join, MOST_SIGNS)
        and _is_short(last, MOST_SIGNS)
        and is_integer(most) and 1 <= most <= MOST_SHOWN
        and _is_short(rest, MOST_SIGNS)
    )


def _is_short(value, most):
    return is_text(value) and len(value) <= most


def _is_no_field_twice(pieces, shape):
    # The tokens of one piece are unlike but for signs, so it is enough to look at the pieces.
    plain = _plain_pieces(pieces, shape)
    fields = [piece[0] for piece in plain if piece[0] != "mark" and _has(shape, piece[0])]
    return len(set(fields)) == len(fields)


def _plain_pieces(pieces, shape):
    found = []
    for piece in pieces:
        if piece[0] == "if":
            found.extend(piece[2] if _has(shape, piece[1]) else piece[3])
        else:
            found.append(piece)
    return found


def _has(shape, field):
    if field == "place":
        return shape[1] == 1
    if field == "volume":
        return shape[2] == 1
    return True


def _tokens_of(piece, shown, shape):
    if piece[0] == "mark":
        return _signs_of(piece[1])
    if piece[0] == "names":
        return _names_of(shown, shape[0])
    return [piece] if _has(shape, piece[0]) else []


def _signs_of(text):
    return [("sign", sign) for sign in text]


def _names_of(shown, many):
    join, last, most, rest = shown[3:]
    count = min(many, most)
    found = []
    for number in range(count):
        if number > 0:
            found.extend(_signs_of(last if number == many - 1 else join))
        found.extend(_name_of(shown, number))
    if count < many:
        found.extend(_signs_of(rest))
    return found


def _name_of(shown, number):
    given, dotted, gap = shown[:3]
    family = [("family", number)]
    capitals = [("dotted" if dotted else "given", number)]
    if given == "none":
        return family
    if given == "ahead":
        return capitals + _signs_of(gap) + family
    return family + _signs_of(gap) + capitals
