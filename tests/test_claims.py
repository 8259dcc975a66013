"""Promise [22]: claims, their papers, and the answer of a style."""

import itertools
import random
import unittest

from ibidem import claims
from ibidem.apart import apart_paper, is_apart, mixed_length
from ibidem.claims import answer_of, claim_holds, is_claim, seal_claim
from ibidem.errors import InvalidClaim, InvalidStyle, InvalidText, Refused
from ibidem.marks import are_fair, do_part, least_marks
from ibidem.reading import read_list
from ibidem.setting import set_entry, set_list
from ibidem.shelving import ordered
from ibidem.spots import is_final, spots_of, steps
from ibidem.styles import hides
from lists import NO_LISTS, any_list, book
from retold import SIGNS
from samples import (
    BOOKS, CLEAR, CLOUDS, FOG, LATIN, NO_LETTERS, ODD, PLAIN, RAIN, SNOW, SPANISH, STORMS, TIGHT, changed, error_of,
)
from small import RUNNING, any_style, hiding

DASHED = (CLEAR[0], changed(CLEAR[1], 4, "; "))
ALIKE = ((*CLEAR[0][:-1], ("if", "volume", (("mark", ", "), ("mark", "v"), ("volume",)), (("mark", "."),))), CLEAR[1])
CLEAR_PAPER = apart_paper(CLEAR)

# Two books that TIGHT sets as one line, and two that PLAIN does.
ONE, OTHER = book(1999, "A BC", title="D"), book(1999, "A B", title="C", place="D")
ASH, ASH_B, ASH_K = book(2001, "Ash J"), book(2001, "Ash J", title="B"), book(2001, "Ash K")
LONE = ((1, 0, 0),)

TRUE = (
    ("mixed", TIGHT, ONE, OTHER), ("mixed", TIGHT, OTHER, ONE), ("mixed", PLAIN, CLOUDS, STORMS),
    ("shortest", TIGHT, 8), ("shortest", PLAIN, mixed_length(PLAIN)),
    ("alike", CLEAR, CLEAR), ("alike", CLEAR, ALIKE), ("alike", PLAIN, PLAIN),
    ("unlike", CLEAR, DASHED, RAIN), ("unlike", CLEAR, TIGHT, FOG), ("unlike", PLAIN, CLEAR, CLOUDS),
    ("parts", (), ()), ("parts", (RAIN,), LONE), ("parts", (RAIN,), ((2, 1, 0),)),
    ("parts", BOOKS, least_marks(BOOKS)),
    ("parts", (ASH, ASH_B), ((1, 1, 1), (1, 1, 2))), ("parts", (ASH, ASH_K), ((1, 1, 0), (1, 1, 0))),
    ("least", (), ()), ("least", (RAIN,), LONE), ("least", BOOKS, least_marks(BOOKS)),
    ("least", (ASH, ASH_K), ((1, 0, 0), (1, 1, 0))),
    ("reads", CLEAR, BOOKS, LATIN), ("reads", CLEAR, BOOKS, SPANISH), ("reads", CLEAR, (), LATIN),
    ("reads", TIGHT, (), LATIN), ("reads", TIGHT, (book(1000, "Ash J", title="On rain"),), LATIN),
)
UNTRUE = (
    ("apart", TIGHT), ("apart", PLAIN), ("apart", RUNNING[0]),
    ("mixed", TIGHT, RAIN, FOG), ("mixed", CLEAR, ONE, OTHER), ("mixed", CLEAR, CLOUDS, STORMS),
    ("mixed", PLAIN, RAIN, FOG),
    ("shortest", TIGHT, 7), ("shortest", TIGHT, 9), ("shortest", TIGHT, 0), ("shortest", TIGHT, 10 ** 5000),
    ("shortest", CLEAR, 0), ("shortest", CLEAR, 8),
    ("alike", CLEAR, DASHED), ("alike", DASHED, CLEAR), ("alike", PLAIN, CLEAR),
    ("unlike", CLEAR, CLEAR, RAIN), ("unlike", CLEAR, ALIKE, CLOUDS), ("unlike", CLEAR, DASHED, FOG),
    ("parts", (ASH, ASH_K), ((1, 0, 0), (1, 0, 0))), ("parts", (ASH, ASH_K), ((1, 0, 1), (1, 0, 2))),
    ("parts", (ASH, ASH_B), ((1, 0, 2), (1, 0, 1))), ("parts", (ASH, ASH_B), ((1, 0, 0), (1, 0, 1))),
    ("parts", (ASH,), ((1, 0, 1),)), ("parts", (ASH, ASH_B), ((1, 0, 0), (1, 0, 0))),
    ("least", (ASH, ASH_K), ((1, 1, 0), (1, 0, 0))), ("least", (ASH, ASH_K), ((1, 1, 0), (1, 1, 0))),
    ("least", (RAIN,), ((2, 0, 0),)), ("least", (ASH,), ((1, 0, 1),)),
    ("least", (ASH, ASH_B), ((1, 0, 2), (1, 0, 1))),
    ("reads", TIGHT, (ONE,), LATIN), ("reads", TIGHT, (RAIN, OTHER), LATIN), ("reads", TIGHT, (ONE, OTHER), SPANISH),
)
APART = (("apart", CLEAR), ("apart", ALIKE), ("apart", RUNNING[2]))
CLAIMS = APART + TRUE + UNTRUE

# What stands in the place of a part of some kind and is none.
SPOILT = (
    None, (), [], 0, -1, True, False, "", "apart", RAIN[:4], list(RAIN), list(CLEAR), CLEAR[::-1], (RAIN, RAIN), [RAIN],
    LATIN[1:],
)


def spoilt_claims():
    """Values that are no claims."""
    yield from ODD
    yield from (
        (), [], "apart", ("apart",), ("apart", CLEAR, CLEAR), ["apart", CLEAR], ("Apart", CLEAR), ("apart ", CLEAR),
        (("apart",), CLEAR), (["apart"], CLEAR), (None, CLEAR), (0, CLEAR), (CLEAR, "apart"), ("", CLEAR),
        (True, CLEAR),
        ("mixed", TIGHT, ONE), ("mixed", TIGHT, ONE, OTHER, RAIN), ("mixed", TIGHT, ONE, ONE),
        ("mixed", TIGHT, (ONE, OTHER)),
        ("mixed", CLEAR, RAIN, RAIN), ("mixed", ONE, OTHER, TIGHT),
        ("shortest", TIGHT), ("shortest", TIGHT, -1), ("shortest", TIGHT, None), ("shortest", TIGHT, True),
        ("shortest", CLEAR, False),
        ("shortest", CLEAR, None), ("shortest", TIGHT, "8"), ("shortest", TIGHT, (8,)), ("shortest", 8, TIGHT),
        ("shortest", TIGHT, 8, 8),
        ("alike", CLEAR), ("alike", CLEAR, CLEAR, CLEAR), ("alike", (CLEAR, CLEAR)), ("unlike", CLEAR, DASHED),
        ("unlike", CLEAR, RAIN, DASHED), ("unlike", CLEAR, DASHED, (RAIN,)),
        ("parts", (RAIN,), ()), ("parts", (RAIN,), (1, 0, 0)), ("parts", (RAIN,), [(1, 0, 0)]),
        ("parts", (RAIN,), ([1, 0, 0],)),
        ("parts", (RAIN,), ((3, 0, 0),)), ("parts", (RAIN,), ((1, 0, 27),)), ("parts", (RAIN,), ((1, False, 0),)),
        ("parts", (RAIN, RAIN), LONE * 2), ("parts", [RAIN], LONE), ("parts", RAIN, LONE), ("parts", LONE, (RAIN,)),
        ("parts", (), LONE),
        ("least", (RAIN,), ()), ("least", (RAIN,), ((1, 2, 0),)), ("least", (RAIN,), ((True, 0, 0),)),
        ("least", (), ()) + ((),),
        ("least", (RAIN,), None), ("least", None, ()), ("least", (RAIN, FOG), LONE), ("least", (FOG,), ((2, 0, 0),)),
        ("reads", PLAIN, BOOKS, LATIN), ("reads", PLAIN, (), LATIN), ("reads", CLEAR, BOOKS),
        ("reads", CLEAR, LATIN, BOOKS),
        ("reads", CLEAR, BOOKS, LATIN, LATIN), ("reads", CLEAR, BOOKS + (RAIN,), LATIN),
    )
    for value in NO_LETTERS:
        yield ("reads", CLEAR, BOOKS, value)
    for value in NO_LISTS:
        yield ("reads", CLEAR, value, LATIN)
        yield ("parts", value, LONE)
        yield ("least", value, ())
    for claim in CLAIMS:
        yield list(claim)
        yield claim + (None,)
        yield claim[:-1]
        for at in range(1, len(claim)):
            for value in SPOILT:
                # A list may be (), a length 0.
                if value != (0 if claim[0] == "shortest" else ()):
                    yield changed(claim, at, value)


def closed(style, paper, pair):
    """The paper with the pair more and all that come of it."""
    found, waiting = set(paper), [pair]
    while waiting:
        one, other = waiting.pop()
        if (one, other) not in found:
            found.add((one, other))
            for sign in SIGNS:
                ends = itertools.product(steps(style, one, sign), steps(style, other, sign))
                waiting += [tuple(sorted(both)) for both in ends]
    return tuple(sorted(found))


def told_true(claim):
    """Whether the claim is true, told anew by what the other functions tell."""
    word, *parts = claim
    if word == "apart":
        return is_apart(*parts)
    if word in ("mixed", "unlike"):
        if word == "mixed":
            return set_entry(parts[0], parts[1]) == set_entry(parts[0], parts[2])
        return set_entry(parts[0], parts[2]) != set_entry(parts[1], parts[2])
    if word == "parts":
        return do_part(*parts) and are_fair(*parts)
    if word == "least":
        return least_marks(parts[0]) == parts[1]
    try:
        return read_list(parts[0], set_list(*parts)) == ordered(*parts[1:])
    except InvalidText:
        return False


class TestIsClaim(unittest.TestCase):

    def test_claims(self):
        for claim in CLAIMS:
            self.assertIs(is_claim(claim), True, claim[0])
            self.assertIs(is_claim(value=claim), True)

    def test_any_value(self):
        for value in spoilt_claims():
            self.assertIs(is_claim(value), False, value)
            self.assertIs(claim_holds(value, ()), False)
            error = error_of(seal_claim, value)
            self.assertIs(type(error), InvalidClaim)
            self.assertIs(error.value, value)


class TestClaimHolds(unittest.TestCase):

    def test_true_claims(self):
        for claim in TRUE:
            self.assertIs(claim_holds(claim, ()), True, claim)
            self.assertIs(claim_holds(claim=claim, paper=()), True)
            self.assertEqual(seal_claim(claim), ())
            self.assertEqual(seal_claim(claim=claim), ())

    def test_claims_that_are_not_true(self):
        for claim in UNTRUE:
            self.assertIs(claim_holds(claim, ()), False, claim)
            error = error_of(seal_claim, claim)
            self.assertIs(type(error), Refused)
            self.assertIs(error.claim, claim)

    def test_papers_of_apart(self):
        for claim in APART:
            paper = seal_claim(claim)
            self.assertEqual(paper, apart_paper(claim[1]))
            self.assertIs(claim_holds(claim, paper), True)
            for value in ((), paper[1:], paper[:-1], paper[::-1], list(paper), None, True, 0, "") + ODD:
                self.assertIs(claim_holds(claim, value), False)

    def test_papers_that_are_not_the_least(self):
        spots = spots_of(CLEAR)
        held = 0
        for pair in random.Random(3).sample(list(itertools.combinations(spots, 2)), 40):
            paper = closed(CLEAR, CLEAR_PAPER, pair)
            whole = not any(is_final(CLEAR, one) and is_final(CLEAR, other) for one, other in paper)
            self.assertIs(claim_holds(("apart", CLEAR), paper), whole)
            held += whole and paper != CLEAR_PAPER
        self.assertGreater(held, 5)

    def test_mixed_styles_have_no_paper(self):
        for style in (TIGHT, PLAIN):
            for paper in ((), CLEAR_PAPER, None):
                self.assertIs(claim_holds(("apart", style), paper), False)

    def test_other_papers(self):
        for claim in TRUE:
            for paper in ([], None, False, True, 0, "", ((),), [()], "()", CLEAR_PAPER, claim) + ODD:
                if paper != ():
                    self.assertIs(claim_holds(claim, paper), False)

    def test_a_claim_that_holds_is_true(self):
        chance = random.Random(1)
        held = {}
        for _ in range(250):
            style = chance.choice((CLEAR, TIGHT, any_style(chance, chance.choice(("Aa", "-", "1.")))))
            books = any_list(chance, 3)
            marks = tuple(
                (chance.randint(1, len(one[0])), chance.randint(0, 1), chance.choice((0, 0, 1, 2))) for one in books
            )
            for claim in (
                ("mixed", style, *chance.sample(BOOKS, 2)), ("mixed", style, ONE, OTHER), ("parts", books, marks),
                ("least", books, marks),
                ("parts", books, least_marks(books)), ("least", books, least_marks(books)),
                ("reads", style, books, LATIN),
                ("unlike", style, chance.choice((CLEAR, TIGHT)), RAIN),
            ):
                self.assertIs(is_claim(claim), True)
                true = told_true(claim)
                self.assertIs(claim_holds(claim, ()), true)
                self.assertEqual(type(error_of(seal_claim, claim)) is Refused, not true)
                held[claim[0], true] = held.get((claim[0], true), 0) + 1
        self.assertEqual(len(held), 10)
        self.assertGreater(min(held.values()), 10, held)


class TestAnswer(unittest.TestCase):

    def test_answers(self):
        self.assertEqual(answer_of(CLEAR), ("apart", CLEAR))
        self.assertEqual(answer_of(style=ALIKE), ("apart", ALIKE))
        for style in (TIGHT, PLAIN):
            word, told, one, other = answer_of(style)
            self.assertEqual((word, told), ("mixed", style))
            self.assertEqual(len(set_entry(style, one)), mixed_length(style))

    def test_answers_are_true(self):
        chance = random.Random(2)
        both = [0, 0]
        for _ in range(60):
            style = any_style(chance, chance.choice(("A", "-", "1.", ";,")))
            for one in (style, hiding(chance, style)):
                answer = answer_of(one)
                self.assertIs(is_claim(answer), True)
                self.assertEqual(answer[:2], ("apart" if is_apart(one) else "mixed", one))
                self.assertIs(claim_holds(answer, seal_claim(answer)), True)
                length = mixed_length(one)
                both[length is None] += 1
                if length is not None:
                    self.assertEqual([len(set_entry(one, other)) for other in answer[2:]], [length] * 2)
                    self.assertIs(claim_holds(("shortest", one, length), ()), True)
                    self.assertIs(type(error_of(seal_claim, ("apart", one))), Refused)
                else:
                    self.assertFalse(hides(one))
        self.assertGreater(min(both), 15)

    def test_what_is_no_style(self):
        for value in ODD + (None, (), list(CLEAR), CLEAR[::-1], RAIN, SNOW):
            error = error_of(answer_of, value)
            self.assertIs(type(error), InvalidStyle)
            self.assertIs(error.value, value)


class TestPlaces(unittest.TestCase):

    def test_all_stand_in_their_module(self):
        for name in ("is_claim", "claim_holds", "seal_claim", "answer_of"):
            self.assertEqual(getattr(claims, name).__module__, "ibidem.claims")


if __name__ == "__main__":
    unittest.main()
