"""Tables: what scripts are worth by a book, at every row of their gates."""

from opengates.checks import is_row
from opengates.errors import BadRow, OpenGates, OtherBook, OtherGates
from opengates.rows import rows_of
from opengates.worked import laid_together, last_worths, need_fit, worked_out
from opengates.worths import plus


class Table:
    """The worths of one line, at every row of its gates."""

    def __init__(self, book, gates, worths):
        self.book = book
        self.gates = gates
        self.rows = rows_of(book.marks, len(gates))
        self.worths = worths

    def __eq__(self, other):
        if not isinstance(other, Table) or self.book != other.book:
            return False
        return self.gates == other.gates and self.worths == other.worths

    def __getitem__(self, row):
        if not is_row(row, self.book, len(self.gates)):
            raise BadRow(row)
        return self.worths[self.rows.index(row)]

    def __iter__(self):
        raise TypeError("a table is asked row by row")

    def __add__(self, other):
        if not isinstance(other, Table):
            return NotImplemented
        _need_same_book(self, other)
        if self.gates != other.gates:
            raise OtherGates(other)
        by = self.book.by
        worths = tuple([plus(by, worth, more) for worth, more in zip(self.worths, other.worths)])
        return Table(self.book, self.gates, worths)

    def __mul__(self, other):
        if not isinstance(other, Table):
            return NotImplemented
        _need_same_book(self, other)
        gates = tuple(sorted(set(self.gates + other.gates)))
        worths = laid_together(self.book, gates, (self.gates, self.worths), (other.gates, other.worths))
        return Table(self.book, gates, worths)


def table(book, script):
    """The Table of what a script tells."""
    need_fit(book, script)
    return Table(book, script.gates, last_worths(book, script))


def count(book, script):
    """The worth of what a script without gates tells."""
    if script.gates:
        raise OpenGates(script.gates)
    need_fit(book, script)
    return last_worths(book, script)[0]


def line_tables(book, script):
    """The tuple of the name and the worths of each line."""
    need_fit(book, script)
    told = worked_out(book, script, script.lines)
    return tuple([(name, worths) for name, (gates, worths) in told.items()])


def _need_same_book(one, other):
    if one.book != other.book:
        raise OtherBook(other)
