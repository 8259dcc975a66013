"""The interface: every name in the module under which it is listed, with its parameters, and what is returned."""

import importlib
import inspect
import unittest

from ibidem import errors
from ibidem.books import SHAPES
from ibidem.desk import Desk
from ibidem.errors import CiteError, InvalidBook, InvalidLetters, InvalidList, InvalidStyle
from samples import BOOKS, CLEAR, CLOUDS, LATIN, ODD, PLAIN, RAIN, STORMS, TIGHT, error_of

INTERFACE = {
    "books": {"is_book": "value", "is_list": "value", "shape_of": "book"},
    "shelving": {
        "is_letters": "value", "ranks": "word letters", "book_key": "book letters", "ordered": "books letters",
        "place_for": "books book letters",
    },
    "styles": {"is_style": "value", "tokens": "style shape", "hidden": "style", "hides": "style"},
    "setting": {"set_entry": "style book", "set_list": "style books letters"},
    "spots": {"spots_of": "style", "steps": "style spot sign", "is_final": "style spot"},
    "reading": {"read_entry": "style text", "read_list": "style text"},
    "apart": {
        "apart_holds": "style paper", "apart_paper": "style", "is_apart": "style", "mixed_length": "style",
        "mixed_books": "style",
    },
    "mending": {"with_mending": "style marks mending", "least_mending": "style marks most"},
    "alikes": {"unlike_shape": "one other", "unlike_book": "one other"},
    "marks": {
        "stem": "book k g", "label": "book mark", "are_marks": "books value", "do_part": "books marks",
        "are_fair": "books marks",
        "cost_of": "books marks", "least_marks": "books", "labels": "books", "book_by": "books text",
        "marks_changed": "books others",
    },
    "manuscripts": {
        "is_manuscript": "books value", "set_text": "books manuscript", "read_text": "books text",
        "cited": "books manuscript",
        "renumbered": "books manuscript others", "without_uncited": "books manuscript",
    },
    "claims": {"is_claim": "value", "claim_holds": "claim paper", "seal_claim": "claim", "answer_of": "style"},
    "told": {"told": "value", "untold": "text"},
    "desk": {"Desk": "style letters", "replayed": "style letters lines"},
}

ERRORS = {
    "InvalidBook": "value", "InvalidList": "value", "InvalidStyle": "value", "InvalidLetters": "value",
    "InvalidText": "text at",
    "InvalidNumber": "value", "InvalidMarks": "value", "InvalidParts": "value", "InvalidClaim": "value",
    "Refused": "claim",
    "InvalidLine": "line at", "NothingToUndo": "word", "Undefined": "what",
}

# An ordinary value for each parameter's name; some functions want another one.
VALUES = {
    "value": RAIN, "book": RAIN, "books": BOOKS, "letters": LATIN, "word": "Chall", "style": CLEAR,
    "shape": (2, 0, 0),
    "spot": ((1, 0, 0), -1, 0), "sign": "A", "text": "", "paper": (),
    "marks": ((1, 0, 0), (1, 0, 1), (1, 0, 2), (1, 0, 0), (1, 0, 0)),
    "mending": ((0, 0),), "most": 1, "one": CLEAR, "other": TIGHT, "k": 1, "g": 0, "mark": (1, 0, 0),
    "others": BOOKS[::-1],
    "manuscript": (("words", "a"), ("cite", (1, 0))), "claim": ("mixed", PLAIN, CLOUDS, STORMS), "lines": ["show"],
}
OTHERS = {
    ("mending", "style"): (CLEAR[0][:4], CLEAR[1]), ("mending", "marks"): ["-", "/"], ("book_by", "text"): "Ash 2999",
    ("untold", "text"): "(1,)",
    ("mixed_length", "style"): TIGHT, ("mixed_books", "style"): TIGHT, ("hidden", "style"): PLAIN,
}

# What each of the errors of [2] is raised for, by the names of parameters.
CHECKED = {
    "style": InvalidStyle, "one": InvalidStyle, "other": InvalidStyle, "book": InvalidBook, "books": InvalidList,
    "others": InvalidList,
    "letters": InvalidLetters,
}


def arguments(module, name):
    """The names of the parameters of a function, each with an ordinary value."""
    found = {}
    for word in INTERFACE[module][name].split():
        found[word] = OTHERS.get((name, word), OTHERS.get((module, word), VALUES[word]))
    return found


def functions():
    for module, names in INTERFACE.items():
        for name in names:
            yield module, name, getattr(importlib.import_module("ibidem." + module), name)


def is_plain(value):
    """Whether a value is made of tuples, strings, integers, bools and None."""
    if type(value) is tuple:
        return all(map(is_plain, value))
    return value is None or type(value) in (str, int, bool)


class TestInterface(unittest.TestCase):

    def test_names_and_parameters(self):
        for module, name, function in functions():
            self.assertEqual(list(inspect.signature(function).parameters), INTERFACE[module][name].split(), name)
            self.assertEqual(function.__module__, "ibidem." + module)
            self.assertEqual(function.__name__, name)
        self.assertEqual(list(inspect.signature(Desk.run).parameters), ["self", "line"])

    def test_by_position_and_by_name(self):
        for module, name, function in functions():
            named = arguments(module, name)
            found = function(*named.values())
            again = function(**named)
            if name in ("Desk", "replayed"):
                self.assertIs(type(found), Desk)
                found, again = [(one.books, one.style, one.lines) for one in (found, again)]
            self.assertEqual(found, again, name)
            self.assertTrue(is_plain(found), name)

    def test_arguments_are_not_changed(self):
        for module, name, function in functions():
            named = arguments(module, name)
            before = repr(named)
            function(**named)
            self.assertEqual(repr(named), before)

    def test_the_first_wrong_argument_is_told(self):
        for module, name, function in functions():
            named = arguments(module, name)
            words = [word for word in named if word in CHECKED]
            for at, first in enumerate(words):
                for wrong in ({first}, set(words[at:]), set(named) - set(words[:at]) - {"word", "text"}):
                    value = [None, ["?"]]
                    given = {word: value if word in wrong else one for word, one in named.items()}
                    error = error_of(lambda: function(**given))
                    self.assertIs(type(error), CHECKED[first], (name, wrong))
                    self.assertIs(error.value, value)

    def test_errors(self):
        for name, fields in ERRORS.items():
            kind = getattr(errors, name)
            self.assertEqual(kind.__bases__, (CiteError,))
            self.assertEqual(list(inspect.signature(kind).parameters), fields.split())
            error = kind(*range(len(fields.split())))
            self.assertEqual(vars(error), {word: at for at, word in enumerate(fields.split())})
        self.assertEqual(CiteError.__bases__, (ValueError,))

    def test_functions_for_any_value_raise_nothing(self):
        for module, name in (
            ("books", "is_book"), ("books", "is_list"), ("shelving", "is_letters"), ("styles", "is_style"),
            ("claims", "is_claim"),
        ):
            function = getattr(importlib.import_module("ibidem." + module), name)
            for value in ODD + (CLEAR, RAIN, BOOKS, LATIN, ("apart", CLEAR)):
                self.assertIn(function(value), (True, False))
        self.assertEqual(len(SHAPES), 12)


if __name__ == "__main__":
    unittest.main()
