"""Promise [6]: letters, ranks, keys and the order of books."""

import itertools
import re
import unittest

from ibidem import shelving
from ibidem.errors import InvalidBook, InvalidLetters, InvalidList
from ibidem.shelving import book_key, is_letters, ordered, place_for, ranks
from samples import BOOKS, CLOUDS, FOG, LATIN, NO_LETTERS, ODD, RAIN, SNOW, SPANISH, STORMS, error_of

CROSSED = ("aa", "ab", "ba", "bb") + LATIN
BACKWARDS = LATIN[::-1]
ALL = (LATIN, SPANISH, CROSSED, BACKWARDS)

PAIRS = tuple("a" + sign for sign in LATIN)


def book(family="Ash", given="J", year=2001, title="On rain", place=None, volume=None):
    return (((family, given),), year, title, place, volume)


class TestIsLetters(unittest.TestCase):

    def test_letters(self):
        for letters in ALL:
            self.assertIs(is_letters(letters), True)
        self.assertIs(is_letters(value=LATIN), True)

    def test_forty_and_forty_one(self):
        self.assertIs(is_letters(LATIN + PAIRS[:13]), True)
        self.assertIs(is_letters(LATIN + PAIRS[:14]), True)
        self.assertIs(is_letters(LATIN + PAIRS[:15]), False)
        self.assertIs(is_letters(LATIN + PAIRS), False)

    def test_each_letter_must_be_there(self):
        for sign in LATIN:
            rest = tuple(letter for letter in LATIN if letter != sign)
            self.assertIs(is_letters(rest), False)
            self.assertIs(is_letters(rest + (sign + sign,)), False)
            self.assertIs(is_letters(rest + (sign.upper(),)), False)
            self.assertIs(is_letters((sign,) + rest), True)

    def test_none_may_be_there_twice(self):
        for letter in SPANISH:
            self.assertIs(is_letters(SPANISH + (letter,)), False)

    def test_what_is_none(self):
        for value in NO_LETTERS + ODD:
            self.assertIs(is_letters(value), False)
        for value in ODD:
            self.assertIs(is_letters(LATIN + (value,)), False)
            self.assertIs(is_letters((value,) + LATIN), False)


class TestRanks(unittest.TestCase):

    def test_words_of_single_letters(self):
        self.assertEqual(ranks("abcz", LATIN), (0, 1, 2, 25))
        self.assertEqual(ranks("abcz", BACKWARDS), (25, 24, 23, 0))
        self.assertEqual(ranks(word="ll", letters=LATIN), (11, 11))

    def test_the_longest_that_fits(self):
        self.assertEqual(ranks("chall", SPANISH), (3, 0, 13))
        self.assertEqual(ranks("lll", SPANISH), (13, 12))
        self.assertEqual(ranks("llll", SPANISH), (13, 13))
        self.assertEqual(ranks("cch", SPANISH), (2, 3))
        self.assertEqual(ranks("hc", SPANISH), (8, 2))

    def test_a_word_may_be_cut_in_several_ways(self):
        self.assertEqual(ranks("aab", CROSSED), (0, 5))
        self.assertEqual(ranks("aba", CROSSED), (1, 4))
        self.assertEqual(ranks("baab", CROSSED), (2, 1))
        self.assertEqual(ranks("cab", CROSSED), (6, 1))
        self.assertEqual(ranks("acab", CROSSED), (4, 6, 1))

    def test_a_string_of_two_may_stand_anywhere_among_letters(self):
        self.assertEqual(ranks("chc", LATIN + ("ch",)), (26, 2))
        self.assertEqual(ranks("chc", ("ch",) + LATIN), (0, 3))

    def test_capitals_anywhere(self):
        for word in ("chall", "Chall", "CHALL", "cHALl", "chalL"):
            self.assertEqual(ranks(word, SPANISH), (3, 0, 13))

    def test_the_empty_word(self):
        for letters in ALL:
            self.assertEqual(ranks("", letters), ())

    def test_all_short_words_are_cut_as_a_pattern_cuts_them(self):
        for letters in ALL:
            pattern = "|".join(sorted(letters, key=len, reverse=True))
            for size in range(6):
                for signs in itertools.product("abcH", repeat=size):
                    word = "".join(signs)
                    pieces = re.findall(pattern, word.lower())
                    self.assertEqual(ranks(word, letters), tuple(map(letters.index, pieces)))

    def test_what_is_no_letters(self):
        for value in NO_LETTERS + ODD:
            for word in ("", "ash"):
                error = error_of(ranks, word, value)
                self.assertIs(type(error), InvalidLetters)
                self.assertIs(error.value, value)


class TestBookKey(unittest.TestCase):

    def test_ordinary_books(self):
        self.assertEqual(book_key(RAIN, LATIN), (
            (((0, 18, 7), "J"), ((4, 11, 12), "KL")), 2001, ((14, 13), (17, 0, 8, 13)), (), (),
        ))
        self.assertEqual(book_key(book=CLOUDS, letters=SPANISH), (
            (((3, 0, 13), "B"),), 1998, ((2, 12, 16, 22, 4, 20),), ((22, 12, 14),), (2,),
        ))
        self.assertEqual(book_key(FOG, BACKWARDS), (
            (((25, 7, 18), "J"),), 2999, ((20,),), (), (999,),
        ))

    def test_words_of_a_title_are_cut_by_themselves(self):
        self.assertEqual(book_key(book(title="A b ab"), CROSSED)[2], ((4,), (5,), (1,)))

    def test_unlike_books_have_unlike_keys(self):
        words = ["".join(signs).capitalize() for size in (1, 2, 3)
                 for signs in itertools.product("abch", repeat=size)]
        titles = ("Ab", "A b", "Aa b", "A ab", "A a b", "Aab", "C h", "Ch")
        books = [book(family=word) for word in words] + [book(given=word.upper()) for word in words]
        books += [book(place=word) for word in words]
        books += [book("A", given, year, title, place, volume)
                  for given in ("A", "AA") for year in (1000, 1001) for title in titles
                  for place in (None, "A", "Aa") for volume in (None, 1, 11)]
        books += [((("A", "B"),) * many, 2001, "A", None, None) for many in (2, 3)]
        many = len(set(books))
        for letters in ALL:
            self.assertEqual(len({book_key(one, letters) for one in books}), many)

    def test_errors(self):
        for value in (None, (), RAIN[:4], list(RAIN), BOOKS) + ODD:
            for letters in (LATIN, None, value):
                error = error_of(book_key, value, letters)
                self.assertIs(type(error), InvalidBook)
                self.assertIs(error.value, value)
        for value in NO_LETTERS:
            error = error_of(book_key, RAIN, value)
            self.assertIs(type(error), InvalidLetters)
            self.assertIs(error.value, value)


class TestOrdered(unittest.TestCase):

    def test_no_books_and_one(self):
        self.assertEqual(ordered((), LATIN), ())
        self.assertEqual(ordered(books=(RAIN,), letters=LATIN), (RAIN,))

    def test_by_letters(self):
        ash, chall, cob = book("Ash"), book("Chall"), book("Cob")
        self.assertEqual(ordered((cob, ash, chall), LATIN), (ash, chall, cob))
        self.assertEqual(ordered((cob, ash, chall), SPANISH), (ash, cob, chall))
        self.assertEqual(ordered((cob, ash, chall), BACKWARDS), (cob, chall, ash))

    def test_by_names_then_year_then_title_then_place_then_volume(self):
        rising = (
            book("Ash", "J", 2999, "Z", "Z", 9),
            ((("Ash", "J"), ("Ash", "A")), 2000, "Z", "Z", 9),
            ((("Ash", "J"), ("Ash", "B")), 1999, "Z", "Z", 9),
            book("Ash", "JA", 1000, "A"),
            book("Ash", "K", 1000, "A"),
            book("Asha", "A", 1000, "Z"),
            book("Asha", "A", 1001, "A a", "Z", 9),
            book("Asha", "A", 1001, "Aa", None, 9),
            book("Asha", "A", 1001, "Aa", "A", None),
            book("Asha", "A", 1001, "Aa", "A", 2),
            book("Asha", "A", 1001, "Aa", "A", 10),
            book("Asha", "A", 1001, "Aa", "Ab"),
        )
        self.assertEqual(ordered(rising[::-1], LATIN), rising)

    def test_the_sequence_of_the_books_is_nothing_to_it(self):
        for letters in ALL:
            first = ordered(BOOKS, letters)
            self.assertEqual(sorted(first), sorted(BOOKS))
            for books in itertools.permutations(BOOKS):
                self.assertEqual(ordered(books, letters), first)

    def test_keys_are_ascending(self):
        for letters in ALL:
            keys = [book_key(one, letters) for one in ordered(BOOKS, letters)]
            self.assertEqual(keys, sorted(keys))

    def test_it_is_a_list_of_the_document(self):
        self.assertIs(type(ordered(BOOKS, LATIN)), tuple)

    def test_errors(self):
        for value in (None, RAIN, list(BOOKS), (RAIN, RAIN), (RAIN, FOG, None)) + ODD:
            for letters in (LATIN, None, value):
                error = error_of(ordered, value, letters)
                self.assertIs(type(error), InvalidList)
                self.assertIs(error.value, value)
        for value in NO_LETTERS:
            for books in ((), BOOKS):
                error = error_of(ordered, books, value)
                self.assertIs(type(error), InvalidLetters)
                self.assertIs(error.value, value)


class TestPlaceFor(unittest.TestCase):

    def test_a_book_of_the_list(self):
        for letters in ALL:
            for at, one in enumerate(ordered(BOOKS, letters)):
                self.assertEqual(place_for(BOOKS, one, letters), at)
                self.assertEqual(place_for(BOOKS[::-1], one, letters), at)

    def test_a_book_that_is_not_in_the_list(self):
        for letters in ALL:
            for one in BOOKS:
                others = tuple(other for other in BOOKS if other != one)
                place = ordered(BOOKS, letters).index(one)
                self.assertEqual(place_for(others, one, letters), place)

    def test_no_books(self):
        self.assertEqual(place_for(books=(), book=RAIN, letters=LATIN), 0)

    def test_it_hangs_on_letters(self):
        self.assertEqual(place_for((book("Cob"),), book("Chall"), LATIN), 0)
        self.assertEqual(place_for((book("Cob"),), book("Chall"), SPANISH), 1)
        self.assertEqual(place_for((STORMS,), CLOUDS, LATIN), 0)
        self.assertEqual(place_for((CLOUDS,), STORMS, LATIN), 1)
        self.assertEqual(place_for((SNOW, RAIN, CLOUDS), FOG, LATIN), 0)

    def test_the_first_wrong_argument_is_told(self):
        for books in (None, RAIN, [RAIN], (RAIN, RAIN)):
            for one in (RAIN, None):
                for letters in (LATIN, None):
                    error = error_of(place_for, books, one, letters)
                    self.assertIs(type(error), InvalidList)
                    self.assertIs(error.value, books)
        for one in (None, (), BOOKS, list(RAIN)) + ODD:
            for letters in (LATIN, None):
                error = error_of(place_for, BOOKS, one, letters)
                self.assertIs(type(error), InvalidBook)
                self.assertIs(error.value, one)
        for letters in NO_LETTERS:
            error = error_of(place_for, (), RAIN, letters)
            self.assertIs(type(error), InvalidLetters)
            self.assertIs(error.value, letters)


class TestPlaces(unittest.TestCase):

    def test_all_stand_in_their_module(self):
        for name in ("is_letters", "ranks", "book_key", "ordered", "place_for"):
            self.assertEqual(getattr(shelving, name).__module__, "ibidem.shelving")


if __name__ == "__main__":
    unittest.main()
