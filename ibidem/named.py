"""Kinds of values by their names."""

from ibidem.books import is_book, is_list
from ibidem.kinds import is_number
from ibidem.shelving import is_letters
from ibidem.styles import is_style


def is_of_kind(kind, value):
    """Whether any value is of the kind that is named."""
    if kind == "style":
        return is_style(value)
    if kind == "book":
        return is_book(value)
    if kind == "list":
        return is_list(value)
    if kind == "letters":
        return is_letters(value)
    if kind == "number":
        return is_number(value)
    return kind == "string" and isinstance(value, str)
