"""How far a token is read: its inside numbers, 0 at first."""

# Of each kind, by its inside number: from which sign to which one leads to what number.
MOVES = {
    "family": ((("A", "Z", 1),), (("a", "z", 1),)),
    "place": ((("A", "Z", 1),), (("a", "z", 1),)),
    "given": ((("A", "Z", 1),), (("A", "Z", 1),)),
    "dotted": ((("A", "Z", 1),), ((".", ".", 2),), (("A", "Z", 1),)),
    "year": ((("1", "2", 1),), (("0", "9", 2),), (("0", "9", 3),), (("0", "9", 4),), ()),
    "title": ((("A", "Z", 1),), (("a", "z", 1), (" ", " ", 2)), (("a", "z", 1),)),
    "volume": ((("1", "9", 1),), (("0", "9", 2),), (("0", "9", 3),), ()),
}

ENOUGH = {
    "sign": (1,),
    "family": (1,),
    "place": (1,),
    "given": (1,),
    "dotted": (2,),
    "year": (4,),
    "title": (1,),
    "volume": (1, 2, 3),
}


def next_inside(token, inside, sign):
    """The inside number to which reading the sign leads, None if nowhere."""
    if token[0] == "sign":
        return 1 if inside == 0 and sign == token[1] else None
    for first, last, number in MOVES[token[0]][inside]:
        if first <= sign <= last:
            return number
    return None


def is_enough(token, inside):
    """Whether the token may end at this inside number."""
    return inside in ENOUGH[token[0]]


def most_inside(token):
    """The greatest inside number that the token can have."""
    return 1 if token[0] == "sign" else len(MOVES[token[0]]) - 1


def ends_from(token, text, start):
    """All places of the text, ascending, at which the token may end that begins at start."""
    found = []
    inside = 0
    for at in range(start, len(text)):
        inside = next_inside(token, inside, text[at])
        if inside is None:
            return found
        if is_enough(token, inside):
            found.append(at + 1)
    return found
