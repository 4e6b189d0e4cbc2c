"""The refusals: one class for each, all under GradeError, none under another one.

No message shows a number or a thing that was handed in: a number may have more figures
than Python writes out, and then the message itself would fail.
"""


class GradeError(ValueError):
    """Any refusal."""


class NoFraction(GradeError):
    """There is no such fraction, as where the bottom is 0."""


class NoTable(GradeError):
    """There is no such table."""


class NoSaying(GradeError):
    """A text is no saying's."""


class NoName(GradeError):
    """A name is no connective's with as many places as the saying has parts."""

    def __init__(self, name):
        GradeError.__init__(self, "no connective of this name with so many places")
        self.name = name


class NoLetter(GradeError):
    """A letter has no grade."""

    def __init__(self, letter):
        GradeError.__init__(self, "no grade for this letter")
        self.letter = letter


class TooMany(GradeError):
    """There are more columns than are told."""


class NoKind(GradeError):
    """A thing is no kind of chains, or none for this question."""


class NoCount(GradeError):
    """A thing is no number of a chain's steps."""


class NoRow(GradeError):
    """A thing is no row of the desk."""

    def __init__(self, row):
        GradeError.__init__(self, "no row of the desk")
        self.row = row


class NoKept(GradeError):
    """No table is kept by a name."""

    def __init__(self, name):
        GradeError.__init__(self, "no table is kept by this name")
        self.name = name
