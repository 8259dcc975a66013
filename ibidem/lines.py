"""The lines of a desk: a word, and told values behind it."""

from ibidem.errors import InvalidLine, InvalidText
from ibidem.named import is_of_kind
from ibidem.told import untold

# By each word the kinds of the values that stand behind it.
KINDS = {
    "add": ("book",),
    "drop": ("number",),
    "change": ("number", "book"),
    "style": ("style",),
    "undo": (),
    "redo": (),
    "show": (),
    "labels": (),
    "read": ("string",),
}


def word_and_values(line):
    """The word of the line, any value, and the tuple of its values."""
    if not isinstance(line, str):
        raise InvalidLine(line, 0)
    word = line.partition(" ")[0]
    if word not in KINDS:
        raise InvalidLine(line, 0)
    return word, _values_behind(line, len(word), KINDS[word])


def _values_behind(line, end, kinds):
    """The values of these kinds that the line tells from end on, a blank ahead of each."""
    found = []
    for kind in kinds:
        start = min(end + 1, len(line))
        # The last value may hold blanks of its own, a number ahead of it may not.
        end = len(line) if len(found) == len(kinds) - 1 else _word_end(line, start)
        value = _value_of(line[start:end])
        if not is_of_kind(kind, value):
            raise InvalidLine(line, start)
        found.append(value)
    if end < len(line):
        raise InvalidLine(line, end)
    return tuple(found)


def _word_end(line, start):
    end = line.find(" ", start)
    return len(line) if end == -1 else end


def _value_of(text):
    """The value that the text tells; None, which is of none of the kinds, if it tells none."""
    try:
        return untold(text)
    except InvalidText:
        return None
