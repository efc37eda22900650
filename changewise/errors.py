"""The errors that wrong arguments are told by, each under ChangeError."""


class ChangeError(ValueError):
    """What all errors of the package stand under."""


class InvalidKind(ChangeError):
    """A kind that is none, or not one as asked for."""

    def __init__(self, given):
        self.given = given


class InvalidValue(ChangeError):
    """A value that is none of its kind."""

    def __init__(self, given):
        self.given = given


class InvalidNumber(ChangeError):
    """A number that is no whole number."""

    def __init__(self, given):
        self.given = given


class InvalidChange(ChangeError):
    """A change that is none of its kind."""

    def __init__(self, given):
        self.given = given


class InvalidLine(ChangeError):
    """A line for the desk that is no text."""

    def __init__(self, given):
        self.given = given


class UnknownName(ChangeError):
    """A name that no cell of the sheet has."""

    def __init__(self, given):
        self.given = given


class NotData(ChangeError):
    """What is asked for as data is of a kind that is not data."""

    def __init__(self, kind):
        self.kind = kind


class InvalidTerm(ChangeError):
    """A term that is none; place is the path to what is wrong first."""

    def __init__(self, place):
        self.place = place


class WrongTerm(ChangeError):
    """A term that has no kind; place is the path to what is wrong first."""

    def __init__(self, place):
        self.place = place


class InvalidText(ChangeError):
    """A text that is refused, at a line and a column."""

    def __init__(self, line, column):
        self.line = line
        self.column = column


class InvalidPairs(ChangeError):
    """Pairs of which the one at index, or the whole, is wrong."""

    def __init__(self, index):
        self.index = index


class InvalidSheet(ChangeError):
    """A sheet of which the cell at index, or the whole, is wrong."""

    def __init__(self, index):
        self.index = index


class InvalidEdit(ChangeError):
    """An edit of which the pair at index, or the whole, is wrong."""

    def __init__(self, index):
        self.index = index


class InvalidEdits(ChangeError):
    """A row of edits of which the one at index, or the whole, is wrong."""

    def __init__(self, index):
        self.index = index


class InvalidContext(ChangeError):
    """A context of which the pair at index, or the whole, is wrong."""

    def __init__(self, index):
        self.index = index


class InvalidNames(ChangeError):
    """Names with values of which the one at index, or the whole, is wrong."""

    def __init__(self, index):
        self.index = index


class InvalidValues(ChangeError):
    """Values of which the one at index, or the whole, is wrong."""

    def __init__(self, index):
        self.index = index


class InvalidChanging(ChangeError):
    """Names that may change of which the one at index, or the whole, is wrong."""

    def __init__(self, index):
        self.index = index


class InvalidChanges(ChangeError):
    """Changes of names of which the one at index, or the whole, is wrong."""

    def __init__(self, index):
        self.index = index


class NotFitting(ChangeError):
    """A change that does not fit the value."""


class NothingDone(ChangeError):
    """An undo where no edit is left to be undone."""
