"""Books, letters, styles and odd values that several tests use."""

LATIN = tuple("abcdefghijklmnopqrstuvwxyz")
SPANISH = LATIN[:3] + ("ch",) + LATIN[3:12] + ("ll",) + LATIN[12:]

NO_LETTERS = (
    None, "", "".join(LATIN), list(LATIN), (LATIN,), (), LATIN[1:], LATIN[:-1], LATIN[:9] + LATIN[10:],
    LATIN + ("a",), LATIN + ("ch", "ch"), LATIN + ("",), LATIN + ("abc",), LATIN + ("A",),
    LATIN + ("aB",), LATIN + ("a ",), LATIN + ("1",), LATIN + ("a\n",), LATIN + ("\u00e9",),
    LATIN + ("\u00df",), LATIN + (None,), LATIN + (True,), LATIN + (7,), LATIN + (("a", "b"),),
    LATIN + (["a", "b"],), LATIN + ([],), LATIN + ((),),
)

RAIN = ((("Ash", "J"), ("Elm", "KL")), 2001, "On rain", None, None)
CLOUDS = ((("Chall", "B"),), 1998, "Clouds", "Ulm", 2)
STORMS = ((("Chall", "B"),), 1998, "Clouds", "Ulm", 12)
SNOW = ((("Ash", "J"), ("Elm", "KL"), ("Oak", "Z")), 1000, "Snow and ice", "Bern", None)
FOG = ((("Ash", "J"),), 2999, "F", None, 999)
BOOKS = (RAIN, CLOUDS, STORMS, SNOW, FOG)

# The style of the document's overview; one that parts all by marks; one that parts nothing.
PLAIN = (
    (("names",), ("mark", " ("), ("year",), ("mark", ") "), ("title",)),
    ("behind", True, ", ", "; ", " & ", 3, " +"),
)
CLEAR = (
    (
        ("names",), ("mark", " ("), ("year",), ("mark", ") "), ("title",),
        ("if", "place", (("mark", ": "), ("place",)), ()),
        ("if", "volume", (("mark", ", v"), ("volume",)), (("mark", "."),)),
    ),
    ("behind", True, ", ", "; ", " & ", 3, ""),
)
TIGHT = (
    (("names",), ("title",), ("place",), ("year",), ("volume",)),
    ("behind", False, "", "", "", 3, ""),
)


def changed(whole, at, part):
    """The tuple with another part at this place."""
    return whole[:at] + (part,) + whole[at + 1:]


def error_of(function, *arguments):
    """What is raised by the call."""
    try:
        function(*arguments)
    except ValueError as error:
        return error
    return None


def nested(depth, kind):
    """Tuples or lists, as many within one another as depth tells."""
    value = kind()
    for _ in range(depth - 1):
        value = kind([value])
    return value


# None of these is a book, a list that is not empty, letters or a part of a book.
ODD = (
    True, False, 0, -1, 10 ** 5000, "", " ", "?", "\n", "\u00e9", "\ud800", "a" * 200,
    [], [()], ((),), (None,), ([],), [[]], (((),),), nested(30, tuple), nested(30, list),
    (None,) * 5, [None] * 5, ("Ash", "J"), ["Ash", "J"],
)
