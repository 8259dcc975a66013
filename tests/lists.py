"""Lists of books, by hand and by chance, and values that are no lists."""

from samples import BOOKS, RAIN


def book(year, *names, title="A", place=None, volume=None):
    """A book of names told by words: `Ash J`."""
    return (tuple(tuple(name.split(" ")) for name in names), year, title, place, volume)


NO_LISTS = (None, list(BOOKS), RAIN, (RAIN, RAIN), (RAIN, None), [], "", (RAIN, list(BOOKS[1])), 0)


def any_list(chance, most, families=("Ash", "Elm"), givens=("J", "JK")):
    """Some list of at most so many books, at most six of one first family and year."""
    found = []
    for _ in range(chance.randint(0, 4 * most)):
        names = [f"{chance.choice(families)} {chance.choice(givens)}" for _ in range(chance.randint(1, 3))]
        one = book(chance.choice((2001, 2001, 2002)), *names, title=chance.choice("ABC"))
        if one not in found and has_room(found, one) and len(found) < most:
            found.append(one)
    return tuple(found)


def has_room(books, one):
    """Whether fewer than six of the books have the first family and the year of this one."""
    return len([other for other in books if (other[0][0][0], other[1]) == (one[0][0][0], one[1])]) < 6
