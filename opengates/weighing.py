"""The lots of one book: their weights, and what scripts are worth on them."""

from opengates.rows import rows_of
from opengates.worked import last_worths, row_weight
from opengates.worths import NOUGHT, plus


def lot_weight(book, rows):
    """The weight of a lot of these (number, row)."""
    total = NOUGHT
    for _, row in rows:
        total = plus(book.by, total, row_weight(book, row))
    return total


def heavy_lots(parting, length):
    """The numbers of the lots of this length whose weight is not 0, each with its weight."""
    found = []
    for lot in parting.now(length):
        weight = lot_weight(parting.books[0], parting.ever[lot].rows)
        if weight != NOUGHT:
            found.append((lot, weight))
    return found


def lot_worths(parting, lots, script):
    """What a script is worth on each of these lots, on which it has one worth."""
    book = parting.books[0]
    worth_by_row = dict(zip(rows_of(book.marks, len(script.gates)), last_worths(book, script)))
    return tuple([worth_by_row[parting.ever[lot].rows[0][1]] for lot in lots])
