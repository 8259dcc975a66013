"""The steps of promise [11], told anew."""

CAPITALS = "ABCDEFGHIJKLMNOPQRSTUVWXYZ"
SMALL = CAPITALS.lower()
FIGURES = "0123456789"
SIGNS = "".join(chr(code) for code in range(32, 127))

# By kind of token: (from, signs, to), and the inside numbers that are enough.
MOVES = {
    "family": ((0, CAPITALS, 1), (1, SMALL, 1)),
    "place": ((0, CAPITALS, 1), (1, SMALL, 1)),
    "given": ((0, CAPITALS, 1), (1, CAPITALS, 1)),
    "dotted": ((0, CAPITALS, 1), (1, ".", 2), (2, CAPITALS, 1)),
    "year": ((0, "12", 1), (1, FIGURES, 2), (2, FIGURES, 3), (3, FIGURES, 4)),
    "title": ((0, CAPITALS, 1), (1, SMALL, 1), (1, " ", 2), (2, SMALL, 1)),
    "volume": ((0, "123456789", 1), (1, FIGURES, 2), (2, FIGURES, 3)),
}
ENOUGH = {
    "sign": (1,), "family": (1,), "place": (1,), "given": (1,), "dotted": (2,), "year": (4,), "title": (1,),
    "volume": (1, 2, 3),
}


def within(token, inside, sign):
    """The inside numbers to which the sign leads within the token, told anew."""
    if token[0] == "sign":
        return [1] if (inside, sign) == (0, token[1]) else []
    return [to for start, signs, to in MOVES[token[0]] if start == inside and sign in signs]


def told_steps(row, spot, sign):
    """What steps must tell where the shape of the spot has this row of tokens, told anew."""
    shape, at, inside = spot
    found = []
    if at >= 0:
        found += [(shape, at, to) for to in within(row[at], inside, sign)]
    if (at < 0 or inside in ENOUGH[row[at][0]]) and at + 1 < len(row):
        found += [(shape, at + 1, to) for to in within(row[at + 1], 0, sign)]
    return tuple(sorted(found))


def told_final(row, spot):
    """What is_final must tell where the shape of the spot has this row of tokens, told anew."""
    _, at, inside = spot
    return at == len(row) - 1 and (at == -1 or inside in ENOUGH[row[at][0]])
