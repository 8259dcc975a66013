"""Values told as texts, and read back."""

from ibidem.errors import InvalidText
from ibidem.kinds import is_sign

QUOTE = '"'
MOST_WITHIN = 30
MOST_FIGURES = 12
FIGURES = "0123456789"

# What one sign tells whole: no integer goes on behind a 0.
SINGLE = {"T": True, "F": False, "0": 0}


def told(value):
    """The text of a value of tuples, integers, strings, None and bools."""
    if value is None:
        return "-"
    if value is True:
        return "T"
    if value is False:
        return "F"
    if isinstance(value, str):
        return QUOTE + value + QUOTE
    if isinstance(value, tuple):
        parts = ",".join([told(part) for part in value])
        return "(" + parts + (",)" if len(value) == 1 else ")")
    return str(value)


def untold(text):
    """The value whose text this is."""
    value, end = _value_at(text, 0, 0)
    if end < len(text):
        raise InvalidText(text, end)
    return value


def _value_at(text, at, depth):
    """The value that begins at this place, within so many tuples, and the place behind it."""
    sign = text[at:at + 1]
    if sign == "(" and depth < MOST_WITHIN:
        return _tuple_at(text, at, depth + 1)
    if sign == QUOTE:
        return _string_at(text, at)
    if sign in SINGLE:
        return SINGLE[sign], at + 1
    figures = at + 1 if sign == "-" else at
    end = _figures_end(text, figures)
    if end > figures:
        return int(text[at:end]), end
    if sign == "-":
        return None, figures
    raise InvalidText(text, at)


def _tuple_at(text, at, depth):
    end = at + 1
    if text[end:end + 1] == ")":
        return (), end + 1
    found = []
    while True:
        part, end = _value_at(text, end, depth)
        found.append(part)
        sign = text[end:end + 1]
        if sign == ")" and len(found) > 1:
            return tuple(found), end + 1
        if sign != ",":
            raise InvalidText(text, end)
        end += 1
        if len(found) == 1 and text[end:end + 1] == ")":
            return tuple(found), end + 1


def _string_at(text, at):
    end = at + 1
    while is_sign(text[end:end + 1]) and text[end] != QUOTE:
        end += 1
    if text[end:end + 1] != QUOTE:
        raise InvalidText(text, end)
    return text[at + 1:end], end + 1


def _figures_end(text, at):
    """The place behind the figures, the first above 0, that begin here; this place if none do."""
    if text[at:at + 1] == "0":
        return at
    end = at
    while end < len(text) and end - at < MOST_FIGURES and text[end] in FIGURES:
        end += 1
    return end
