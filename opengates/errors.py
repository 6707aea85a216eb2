"""All errors of the package."""


class GateError(ValueError):
    """An error of this package: `value` is its only argument, whatever that is."""

    def __init__(self, value):
        self.value = value


class BadBook(GateError):
    """A text is no book: 0 for what is no string, else the number of a line."""


class NoMark(GateError):
    """A value is no name of a mark."""


class NoKind(GateError):
    """A value is no name of a kind of the book."""


class OtherKinds(GateError):
    """A second book is not of the sort of the first one."""


class BadNames(GateError):
    """A value is no tuple of new names for all marks."""


class NotAbove(GateError):
    """The weight of this mark is not above 0."""


class TooGreat(GateError):
    """This number is beyond what a book may hold."""


class TooMany(GateError):
    """There are so many of something, and so many are not allowed."""


class BadScript(GateError):
    """A text is no script: 0 for what is no string, else the number of a line."""


class NoName(GateError):
    """A value is no name of a line."""


class OtherGates(GateError):
    """These gates, or the gates of this script, are not those that are wanted."""


class BadGates(GateError):
    """These values are no gates that can be exchanged."""


class BadNet(GateError):
    """A value is no net."""


class NotPlain(GateError):
    """The script is not plain: the line of this name adds."""


class TooWide(GateError):
    """Something has this width, which is too great."""


class BadRow(GateError):
    """A value is no row of the wanted form."""


class OtherBook(GateError):
    """A second table has another book."""


class OpenGates(GateError):
    """There are gates that are still open: these."""


class BadFactor(GateError):
    """The bottom of this factor has no inverse by the prime."""


class BadAround(GateError):
    """A text is no around: 0 for what is no string, else the number of a line."""


class BadBy(GateError):
    """A value is neither 0 nor a prime from 2 to 97."""


class BadRows(GateError):
    """A value is no matrix by this by."""


class BadBooks(GateError):
    """A value is no tuple of as many books as are wanted."""


class BadLength(GateError):
    """A value is no length that is allowed here."""


class BadWidth(GateError):
    """A value is no integer from 1 to 4."""


class OtherLength(GateError):
    """Two rows have these unlike lengths."""


class BadWorths(GateError):
    """A value is no function of so many marks."""


class BadScripts(GateError):
    """A value is no tuple of one to six scripts of the same gates."""


class BadNumber(GateError):
    """A value is no number of copies that is allowed here."""


class OtherBy(GateError):
    """A second book has another by."""


class BadLine(GateError):
    """A value is no line that can stand here."""


class Later(GateError):
    """The line of this name stands too late to be an operand here."""


class Wanted(GateError):
    """The line of this name has the line as an operand."""


class NothingToUndo(GateError):
    """No deed stands that could be taken back."""


class NothingToRedo(GateError):
    """No deed was taken back that could be done again."""


class NoTrial(GateError):
    """There is no trial that could be kept."""


class BadJournal(GateError):
    """A text is no journal: 0 for what is no string, else the number of a line."""
