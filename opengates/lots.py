"""Lots: which rows of marks no script of few gates tells apart."""

from opengates.books import Book, renamings
from opengates.bounds import need_few_rows, need_length, need_one_sort, need_width
from opengates.checks import gates_to, is_short_row
from opengates.errors import BadBooks, BadRow, OtherLength
from opengates.families import are_together, is_stable_family
from opengates.fitting import fitting_script, is_pair
from opengates.partings import go_finer
from opengates.rows import rows_of
from opengates.telling import parting_script
from opengates.weighing import lot_weight
from opengates.worked import last_worths
from opengates.worths import NOUGHT, UNIT


def lots(books, k):
    """The coarsest stable family."""
    _need_books(books, k)
    return go_finer(books, k).family()


def shows_stable(books, k, value):
    """Whether a value is a stable family."""
    _need_books(books, k)
    return is_stable_family(books, k, value)


def same_lot(book, k, one, other):
    """A stable family that has both rows in one lot, or a script that tells them apart."""
    _need_rows(book, k, one, other)
    found = go_finer((book,), k)
    if found.last[0, one] == found.last[0, other]:
        return ("same", found.family())
    return ("parts", parting_script(found, (0, one), (0, other)).text)


def shows_same_lot(book, k, one, other, value):
    """Whether a value is such a family, or the text of such a script."""
    _need_rows(book, k, one, other)
    if is_pair("same", value):
        return is_stable_family((book,), k, value[1]) and are_together(value[1], (0, one), (0, other))
    if not is_pair("parts", value):
        return False
    script = fitting_script(book, k, gates_to(len(one)), value[1])
    if script is None:
        return False
    rows = rows_of(book.marks, len(one))
    worths = last_worths(book, script)
    return worths[rows.index(one)] == UNIT and worths[rows.index(other)] == NOUGHT


def lot_weights(book, k, m):
    """For each lot of rows of m marks its rows, and its weight."""
    need_width(k)
    need_few_rows((book,), k)
    need_length(m, k)
    found = []
    for lot in go_finer((book,), k).family()[m]:
        found.append((tuple([row for _, row in lot]), lot_weight(book, lot)))
    return tuple(found)


def orbits(book, m):
    """The rows of m marks, those together that renamings of the book lead to each other."""
    need_length(m, 4)
    need_few_rows((book,), m)
    names = [dict(zip(book.marks, marks)) for marks in renamings(book, book)]
    rows = rows_of(book.marks, m)
    found = []
    done = {}
    for row in rows:
        if row not in done:
            led = {tuple([new[mark] for mark in row]): True for new in names}
            found.append(tuple([its for its in rows if its in led]))
            for its in led:
                done[its] = True
    return tuple(found)


def _need_books(books, k):
    if not isinstance(books, tuple) or not 1 <= len(books) <= 2:
        raise BadBooks(books)
    if not all([isinstance(book, Book) for book in books]):
        raise BadBooks(books)
    need_one_sort(books[0], books[-1])
    need_width(k)
    need_few_rows(books, k)


def _need_rows(book, k, one, other):
    need_width(k)
    need_few_rows((book,), k)
    for row in (one, other):
        if not is_short_row(row, book, k):
            raise BadRow(row)
    if len(one) != len(other):
        raise OtherLength((len(one), len(other)))
