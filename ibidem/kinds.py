"""Kinds of values that several modules ask for."""

SMALL = "abcdefghijklmnopqrstuvwxyz"
CAPITALS = "ABCDEFGHIJKLMNOPQRSTUVWXYZ"


def is_integer(value):
    """Whether any value is an int that is no bool."""
    return isinstance(value, int) and not isinstance(value, bool)


def is_number(value):
    """Whether any value is an integer from 0 on."""
    return is_integer(value) and value >= 0


def is_made_of(value, signs):
    """Whether any value is a string, perhaps an empty one, of these signs alone."""
    return isinstance(value, str) and all(sign in signs for sign in value)


def is_sign(character):
    """Whether a string of one character, or of none, is a printable ASCII character."""
    return " " <= character <= "~"


def is_text(value):
    """Whether any value is a string, perhaps an empty one, of signs."""
    return isinstance(value, str) and all(is_sign(character) for character in value)
