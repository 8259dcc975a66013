"""Books, letters and odd values that several tests use."""

LATIN = tuple("abcdefghijklmnopqrstuvwxyz")

RAIN = ((("Ash", "J"), ("Elm", "KL")), 2001, "On rain", None, None)
CLOUDS = ((("Chall", "B"),), 1998, "Clouds", "Ulm", 2)
STORMS = ((("Chall", "B"),), 1998, "Clouds", "Ulm", 12)
SNOW = ((("Ash", "J"), ("Elm", "KL"), ("Oak", "Z")), 1000, "Snow and ice", "Bern", None)
FOG = ((("Ash", "J"),), 2999, "F", None, 999)
BOOKS = (RAIN, CLOUDS, STORMS, SNOW, FOG)


def nested(depth, kind):
    """Tuples or lists, as many within one another as depth tells."""
    value = kind()
    for _ in range(depth - 1):
        value = kind([value])
    return value


# None of these is a book, a list that is not empty, letters or a part of a book.
ODD = (
    True, False, 0, -1, 10 ** 5000, "", " ", "?", "\n", "\u00e9", "\ud800", "a" * 200,
    [], [()], ((),), (None,), ([],), [[]], (((),),), nested(30, tuple), nested(30, list),
    (None,) * 5, [None] * 5, ("Ash", "J"), ["Ash", "J"],
)
