"""Lots, the books of a list with equal names and year, and what their labels show at least."""

from ibidem.books import MOST_NAMES
from ibidem.setting import dotted


def lots_of(books):
    """For each lot, in the sequence of their first books, the numbers of its books."""
    found = {}
    for number, book in enumerate(books):
        found.setdefault(book[:2], []).append(number)
    return list(found.values())


def stem_of(book, k, g):
    """What stem returns, for k and g that are known to be such for the book."""
    names, year = book[:2]
    shown = [family + " " + dotted(given) if g == 1 else family for family, given in names[:k]]
    return " & ".join(shown) + (" +" if k < len(names) else "") + " " + str(year)


def least_shown(firsts):
    """For each lot, told by its first book, the pair (k, g), so that stems are unlike at the least cost."""
    # Stems of unlike first families or years are unlike, whatever they show beside:
    # so the lots of each first family and year are gone through alone.
    near = {}
    for number, book in enumerate(firsts):
        near.setdefault((book[0][0][0], book[1]), []).append(number)
    found = {}
    for numbers in near.values():
        shown = _least([_choices(firsts[number]) for number in numbers])
        for number, pair in zip(numbers, shown):
            found[number] = pair
    return [found[number] for number in range(len(firsts))]


def _choices(book):
    """All that the book's stem may show, ascending: triples of k, g and the stem."""
    many = len(book[0])
    return [(k, g, stem_of(book, k, g)) for k in range(1, many + 1) for g in (0, 1)]


def _least(rows):
    """For each row the pair (k, g) of one of its choices, with unlike stems, at the least cost."""
    for givens in range(len(rows) + 1):
        for names in range(len(rows), MOST_NAMES * len(rows) + 1):
            found = _chosen(rows, givens, names, ())
            if found is not None:
                return found
    # Not reached: with all names and givens shown, all stems are unlike.
    return ()


def _chosen(rows, givens, names, taken):
    """The first such pairs that show just so many givens and names, with stems that are not taken."""
    if not rows:
        return () if givens == 0 and names == 0 else None
    if givens > len(rows) or not len(rows) <= names <= MOST_NAMES * len(rows):
        return None
    for k, g, text in rows[0]:
        if g <= givens and text not in taken:
            rest = _chosen(rows[1:], givens - g, names - k, (*taken, text))
            if rest is not None:
                return ((k, g), *rest)
    return None
