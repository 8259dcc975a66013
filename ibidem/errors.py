"""The errors of the package: all stand directly under CiteError.

Their wording is fixed and does not show the value: any value may be kept,
an integer that is too long to be written out, too.
"""


class CiteError(ValueError):
    """What all errors of the package are; never raised itself."""


class InvalidBook(CiteError):
    """A value that must be a book and is none."""

    def __init__(self, value):
        super().__init__("the value is no book")
        self.value = value


class InvalidList(CiteError):
    """A value that must be a list of books and is none."""

    def __init__(self, value):
        super().__init__("the value is no list of books")
        self.value = value


class InvalidStyle(CiteError):
    """A value that must be a style and is none."""

    def __init__(self, value):
        super().__init__("the value is no style")
        self.value = value


class InvalidLetters(CiteError):
    """A value that must be letters and is none."""

    def __init__(self, value):
        super().__init__("the value is no letters")
        self.value = value


class InvalidText(CiteError):
    """A text that cannot be read, and the place of what is wrong in it."""

    def __init__(self, text, at):
        super().__init__("the text cannot be read")
        self.text = text
        self.at = at


class InvalidNumber(CiteError):
    """A number that is none of those that may stand there."""

    def __init__(self, value):
        super().__init__("the number may not stand there")
        self.value = value


class InvalidMarks(CiteError):
    """A value that must be marks and is none that may stand there."""

    def __init__(self, value):
        super().__init__("the value is no marks")
        self.value = value


class InvalidParts(CiteError):
    """A value that must be a manuscript and is none."""

    def __init__(self, value):
        super().__init__("the value is no manuscript")
        self.value = value


class InvalidClaim(CiteError):
    """A value that must be a claim and is none."""

    def __init__(self, value):
        super().__init__("the value is no claim")
        self.value = value


class Refused(CiteError):
    """A claim that is not true."""

    def __init__(self, claim):
        super().__init__("the claim is not true")
        self.claim = claim


class InvalidLine(CiteError):
    """A line of no form that a desk knows, and the place of what is wrong."""

    def __init__(self, line, at):
        super().__init__("the line has no form that is known")
        self.line = line
        self.at = at


class NothingToUndo(CiteError):
    """An undo or a redo, told by its word, without a deed for it."""

    def __init__(self, word):
        super().__init__("there is no deed for this word")
        self.word = word


class Undefined(CiteError):
    """What is asked for does not exist; the word tells what it is."""

    def __init__(self, what):
        super().__init__("there is none")
        self.what = what
