"""Styles of which parts run into each other, and all books that are set as short texts by them."""

import itertools

from ibidem.setting import set_entry
from samples import TIGHT, changed

NAMES, YEAR, TITLE, PLACE, VOLUME = (("names",), ("year",), ("title",), ("place",), ("volume",))


def mark(text):
    return ("mark", text)


def mixed(shown, *pieces):
    return (pieces, shown)


# Styles that show all and of which names, marks, titles and figures run into each other.
RUNNING = (
    TIGHT,
    mixed(("ahead", False, "", "", "", 3, ""), NAMES, TITLE, PLACE, VOLUME, YEAR),
    mixed(("behind", True, "", ".", "", 3, ""), NAMES, PLACE, TITLE, YEAR, mark("1"), VOLUME),
    mixed(("ahead", True, "A", "", ".", 3, ""), TITLE, mark("a"), PLACE, NAMES, YEAR, VOLUME),
    mixed(("behind", False, "A", "A", "Aa", 3, ""), PLACE, mark("A"), TITLE, NAMES, VOLUME, mark("1"), YEAR),
    mixed(("ahead", False, "A.", "1", "a", 3, "zzz"), YEAR, VOLUME, TITLE, mark(" a"), PLACE, NAMES),
    mixed(
        ("behind", False, "", "A", "", 3, ""), ("if", "place", (PLACE, mark("A")), (mark("AA"),)), NAMES, TITLE,
        ("if", "volume", (mark("a"), VOLUME), (mark("a1"),)), YEAR,
    ),
    mixed(
        ("ahead", True, "", "A.", "", 3, ""), ("if", "volume", (NAMES, YEAR, VOLUME), (YEAR, mark("1"), NAMES)),
        ("if", "place", (mark("a"), TITLE, PLACE), (TITLE, mark("A"))),
    ),
)


def small_books(most):
    """All books of the year 1111 and at most so many signs beside it: `A`, `a`, the blank and `1` alone."""
    families = ["A" + "a" * many for many in range(most)]
    givens = ["A" * many for many in range(1, most)]
    titles = [
        "A" + "".join(rest) for size in range(most) for rest in itertools.product("a ", repeat=size)
        if "  " not in "".join(rest) and rest[-1:] != (" ",)
    ]
    rows = [(families, givens) * many + (titles, ["", *families], ["", "1", "11", "111"]) for many in (1, 2, 3)]
    for row in rows:
        for *names, title, place, volume in words_within(row, most):
            pairs = tuple(zip(names[::2], names[1::2]))
            yield (pairs, 1111, title, place or None, int(volume) if volume else None)


def words_within(row, room):
    """The lists of one word of each member of the row, of at most so many signs in all."""
    if not row:
        yield []
        return
    least = sum(min(map(len, others)) for others in row[1:])
    for word in row[0]:
        if len(word) + least <= room:
            for rest in words_within(row[1:], room - len(word)):
                yield [word] + rest


def by_entries(style, books):
    """By each line the books that are set as it."""
    found = {}
    for book in books:
        found.setdefault(set_entry(style, book), []).append(book)
    return found


def any_mark(chance, signs):
    return mark("".join(chance.choices(signs, k=chance.randint(1, 2))))


def any_style(chance, signs):
    """Some style that shows all, with marks of these signs."""
    pieces = [NAMES, YEAR, TITLE]
    for piece in (PLACE, VOLUME):
        there = [any_mark(chance, signs) for _ in range(chance.randint(0, 2))]
        lacking = [any_mark(chance, signs) for _ in range(chance.randint(0, 2))]
        there.insert(chance.randint(0, len(there)), piece)
        pieces.append(chance.choice((piece, ("if", piece[0], tuple(there), tuple(lacking)))))
    pieces += [any_mark(chance, signs) for _ in range(chance.randint(0, 3))]
    chance.shuffle(pieces)
    between = ["".join(chance.choices(signs, k=chance.randint(0, most))) for most in (1, 2, 2)]
    return mixed((chance.choice(("ahead", "behind")), chance.random() < 0.5, *between, 3, ""), *pieces)


def hiding(chance, style):
    """A style that leaves out something of what the style shows."""
    pieces, shown = style
    what = chance.choice(("given", "most", "piece", "chosen"))
    if what == "given":
        return (pieces, changed(shown, 0, "none"))
    if what == "most":
        return (pieces, changed(shown, 5, chance.choice((1, 2))))
    at = chance.randrange(len(pieces))
    if what == "chosen" or len(pieces) == 1:
        return (changed(pieces, at, ("if", "volume", (), pieces[at:at + 1] if pieces[at][0] != "if" else ())), shown)
    return (pieces[:at] + pieces[at + 1:], shown)
