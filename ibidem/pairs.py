"""Pairs of spots of a style that one text leads to, and how signs lead on from them."""

from itertools import combinations

from ibidem.books import SHAPES
from ibidem.inside import most_inside, next_inside
from ibidem.kinds import CAPITALS, SMALL
from ibidem.spots import may_end, may_leave, spots_of
from ibidem.styles import row_of


class Pairs:
    """The spots of a style by their numbers, and one code for each pair of them.

    The code of a spot alone, to which a text leads in the same way twice, is
    below 0; it is none of the pairs, but leads to some.
    """

    def __init__(self, style):
        rows = {shape: row_of(style, shape) for shape in SHAPES}
        self.spots = spots_of(style)
        self.moves = _moves(self.spots, rows)
        self.finals = [may_end(rows[shape], at, inside) for shape, at, inside in self.spots]

    def code_of(self, one, other):
        """The code of the pair of the spots of these numbers, whichever is the lesser one."""
        return min(one, other) * len(self.spots) + max(one, other)

    def numbers_of(self, code):
        """The numbers of the two spots, the lesser one first; of a spot alone twice the same."""
        if code < 0:
            return (-1 - code, -1 - code)
        return divmod(code, len(self.spots))

    def alone(self):
        """The codes of all starts alone."""
        return [-1 - start for start in self._starts()]

    def of_starts(self):
        """The pairs of the starts of unlike shapes."""
        starts = self._starts()
        return [self.code_of(one, other) for one, other in combinations(starts, 2)]

    def of_two_steps(self):
        """The pairs of two steps from one spot by one sign."""
        found = []
        for ways in self.moves:
            found.extend([self.code_of(ends[0], ends[1]) for ends in ways.values() if len(ends) == 2])
        return found

    def steps_from(self, code):
        """The pairs (sign, code) to which a sign leads from the code."""
        if code < 0:
            return self._steps_alone(-1 - code)
        one, other = self.numbers_of(code)
        ways = self.moves[other]
        found = []
        for sign, ends in self.moves[one].items():
            others = ways.get(sign, ())
            found.extend([(sign, self.code_of(end, another)) for end in ends for another in others])
        return found

    def is_twice(self, code):
        """Whether the code is that of a pair, of one spot twice."""
        one, other = self.numbers_of(code)
        return code >= 0 and one == other

    def is_final(self, code):
        """Whether the code is that of a pair, of two final spots."""
        one, other = self.numbers_of(code)
        return code >= 0 and self.finals[one] and self.finals[other]

    def _starts(self):
        return [number for number, spot in enumerate(self.spots) if spot[1] == -1]

    def _steps_alone(self, number):
        found = []
        for sign, ends in self.moves[number].items():
            found.extend([(sign, -1 - end) for end in ends])
            if len(ends) == 2:
                found.append((sign, self.code_of(ends[0], ends[1])))
        return found


def _moves(spots, rows):
    """For each spot, by each sign that leads on from it, the numbers of its steps."""
    numbers = {spot: number for number, spot in enumerate(spots)}
    reads = _reads(rows)
    found = []
    for shape, at, inside in spots:
        row = rows[shape]
        ways = {}
        if at >= 0:
            for sign, end in reads[row[at], inside]:
                ways[sign] = (numbers[shape, at, end],)
        if may_leave(row, at, inside) and at + 1 < len(row):
            for sign, end in reads[row[at + 1], 0]:
                ways[sign] = ways.get(sign, ()) + (numbers[shape, at + 1, end],)
        found.append(ways)
    return found


def _reads(rows):
    """By each token and inside number the pairs of a sign and the inside number that it leads to."""
    signs = _signs(rows)
    found = {}
    for row in rows.values():
        for token in row:
            for inside in range(most_inside(token) + 1):
                if (token, inside) not in found:
                    found[token, inside] = _read(token, inside, signs)
    return found


def _read(token, inside, signs):
    ends = [(sign, next_inside(token, inside, sign)) for sign in signs]
    return [(sign, end) for sign, end in ends if end is not None]


def _signs(rows):
    """The signs of all marks, and one of each group of those that fields read alike."""
    # Two signs of one group that are in no mark lead from each spot to the same spots.
    marked = {token[1]: True for row in rows.values() for token in row if token[0] == "sign"}
    found = list(marked)
    for group in (CAPITALS, SMALL, "12", "3456789", "0", " ", "."):
        found.extend([sign for sign in group if sign not in marked][:1])
    return found
