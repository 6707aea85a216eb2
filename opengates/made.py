"""Functions of marks: which of them scripts of few gates tell."""

from opengates.bounds import need_few_rows, need_length, need_width
from opengates.checks import gates_to, is_row, is_short_row
from opengates.errors import BadRow, BadWorths
from opengates.fitting import fitting_script, is_pair, is_told
from opengates.partings import go_finer
from opengates.rows import rows_of
from opengates.solving import are_apart
from opengates.telling import pure_script, worths_script
from opengates.weighing import lot_worths
from opengates.worked import last_worths
from opengates.worths import NOUGHT, UNIT, are_worths


def made(book, k, m, worths):
    """A script that tells a function of m marks, or two rows of one lot that bar it."""
    worth_by_row = _need_function(book, k, m, worths)
    found = go_finer((book,), k)
    first = {}
    for row, worth in worth_by_row.items():
        # Of each lot the first row is held against all others.
        ahead = first.setdefault(found.last[0, row], row)
        if worth_by_row[ahead] != worth:
            return ("rows", ahead, row)
    return ("script", worths_script(found, m, worth_by_row).text)


def shows_made(book, k, m, worths, value):
    """Whether a value is the text of such a script, or two such rows."""
    worth_by_row = _need_function(book, k, m, worths)
    if is_pair("script", value):
        script = fitting_script(book, k, gates_to(m), value[1])
        return script is not None and last_worths(book, script) == worths
    if not is_told("rows", 3, value) or not all([is_row(row, book, m) for row in value[1:]]):
        return False
    one, other = value[1:]
    found = go_finer((book,), k)
    return found.last[0, one] == found.last[0, other] and worth_by_row[one] != worth_by_row[other]


def pure(book, k, row):
    """A script that is worth 1 on the lot of a row, 0 elsewhere."""
    _need_row(book, k, row)
    found = go_finer((book,), k)
    return pure_script(found, found.last[0, row], gates_to(len(row))).text


def shows_pure(book, k, row, value):
    """Whether a value is the text of such a script."""
    _need_row(book, k, row)
    script = fitting_script(book, k, gates_to(len(row)), value)
    if script is None:
        return False
    last = go_finer((book,), k).last
    lot = last[0, row]
    wanted = [UNIT if last[0, its] == lot else NOUGHT for its in rows_of(book.marks, len(row))]
    return last_worths(book, script) == tuple(wanted)


def spanning(book, k, m):
    """Scripts of which all functions of m marks are sums that are the same on lots."""
    _need_lots(book, k, m)
    found = go_finer((book,), k)
    return tuple([pure_script(found, lot, gates_to(m)).text for lot in found.now(m)])


def shows_spanning(book, k, m, value):
    """Whether a value is a tuple of the texts of such scripts."""
    _need_lots(book, k, m)
    found = go_finer((book,), k)
    lots = found.now(m)
    if not isinstance(value, tuple) or len(value) != len(lots):
        return False
    scripts = [fitting_script(book, k, gates_to(m), text) for text in value]
    if any([script is None for script in scripts]):
        return False
    # Each has one worth on each lot, and so many that are apart span all there is.
    return are_apart(book.by, [lot_worths(found, lots, script) for script in scripts])


def _need_lots(book, k, m):
    need_width(k)
    need_few_rows((book,), k)
    need_length(m, k)


def _need_function(book, k, m, worths):
    """A dict of what the worths are at each row of m marks."""
    _need_lots(book, k, m)
    rows = rows_of(book.marks, m)
    if not are_worths(book.by, worths, len(rows)):
        raise BadWorths(worths)
    return dict(zip(rows, worths))


def _need_row(book, k, row):
    need_width(k)
    need_few_rows((book,), k)
    if not is_short_row(row, book, k):
        raise BadRow(row)
