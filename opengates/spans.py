"""Sums of rows: what combinations of rows there are, over fractions and over remainders."""

from opengates.checks import is_by
from opengates.errors import BadBy, BadRow, BadRows
from opengates.worths import NOUGHT, are_worths, inverse, minus, over, paired_sum, scale_of, whole, worth_of

MOST = 16


def in_span(by, rows, row):
    """How a row is a sum of multiples of rows, or places that bar it."""
    _need_matrix(by, rows)
    _need_row(by, rows, row)
    for relation in _relations(by, rows + (row,)):
        if relation[-1] != NOUGHT:
            own = minus(by, NOUGHT, relation[-1])
            return ("sum", tuple([over(by, factor, own) for factor in relation[:-1]]))
    # No relation has a part of the row, so some relation of the columns bars it.
    barring = [places for places in _relations(by, _columns(rows)) if paired_sum(by, places, row) != NOUGHT]
    return ("barred", barring[0])


def shows_in_span(by, rows, row, value):
    """Whether a value is such a sum, or bars the row."""
    _need_matrix(by, rows)
    _need_row(by, rows, row)
    if not isinstance(value, tuple) or len(value) != 2 or not isinstance(value[0], str):
        return False
    word, worths = value
    if word == "sum":
        return are_worths(by, worths, len(rows)) and _combination(by, rows, worths) == row
    if word != "barred" or not are_worths(by, worths, len(row)):
        return False
    if paired_sum(by, worths, row) == NOUGHT:
        return False
    return all([paired_sum(by, worths, its) == NOUGHT for its in rows])


def kernel(by, rows):
    """A basis of the factors whose combination is nought at every place."""
    _need_matrix(by, rows)
    return _relations(by, rows)


def shows_kernel(by, rows, value):
    """Whether a value is such a basis."""
    _need_matrix(by, rows)
    if not isinstance(value, tuple) or len(value) != len(_relations(by, rows)):
        return False
    if not all([are_worths(by, relation, len(rows)) for relation in value]):
        return False
    noughts = (NOUGHT,) * len(rows[0])
    if not all([_combination(by, rows, relation) == noughts for relation in value]):
        return False
    # As many as each basis has, so they are one if none is a combination of the others.
    return not value or _relations(by, value) == ()


def determinant(by, rows):
    """The sum of the products of one place of each row, with their signs."""
    _need_matrix(by, rows)
    if len(rows) != len(rows[0]):
        raise BadRows(rows)
    scales = [scale_of(row) for row in rows]
    left = [whole(row, scale) for row, scale in zip(rows, scales)]
    sign = 1
    pivot = 1
    for place in range(len(rows)):
        at = _first_at(left, place)
        if at is None:
            return NOUGHT
        lead = left[at]
        # Each row that the leading one passes on its way to the top changes the sign.
        sign = sign if at % 2 == 0 else -sign
        left = [_crossed(by, row, lead, place, pivot) for number, row in enumerate(left) if number != at]
        pivot = lead[place]
    bottom = 1
    for scale in scales:
        bottom = bottom * scale
    return worth_of(by, sign * pivot, bottom)


def _need_matrix(by, rows):
    if not is_by(by):
        raise BadBy(by)
    if not isinstance(rows, tuple) or not 1 <= len(rows) <= MOST:
        raise BadRows(rows)
    if not isinstance(rows[0], tuple) or not 1 <= len(rows[0]) <= MOST:
        raise BadRows(rows)
    if not all([are_worths(by, row, len(rows[0])) for row in rows]):
        raise BadRows(rows)


def _need_row(by, rows, row):
    if not are_worths(by, row, len(rows[0])):
        raise BadRow(row)


def _relations(by, rows):
    """A basis of the factors whose combination of rows is nought at every place."""
    scales = [scale_of(row) for row in rows]
    leads, pivot = _led(by, _columns([whole(row, scale) for row, scale in zip(rows, scales)]))
    leading = [place for place, lead in leads]
    found = []
    for free in range(len(rows)):
        if free not in leading:
            numbers = [0] * len(rows)
            numbers[free] = pivot
            for place, lead in leads:
                numbers[place] = -lead[free]
            # A row that was made whole took its scale from its factor.
            worths = [worth_of(by, number * scale, 1) for number, scale in zip(numbers, scales)]
            found.append(tuple([over(by, worth, worth_of(by, pivot, 1)) for worth in worths]))
    return tuple(found)


def _led(by, rows):
    """Rows of integers that lead, and their pivot.

    A row that leads is a pair of a place and the row: there it is the pivot, and all others
    that lead are 0. What is told has the same combinations as rows, but for their factors.
    """
    leads = []
    left = rows
    pivot = 1
    for place in range(len(rows[0])):
        at = _first_at(left, place)
        if at is not None:
            lead = left[at]
            leads = [(its, _crossed(by, row, lead, place, pivot)) for its, row in leads]
            leads.append((place, lead))
            left = [_crossed(by, row, lead, place, pivot) for number, row in enumerate(left) if number != at]
            pivot = lead[place]
    return leads, pivot


def _crossed(by, row, lead, place, pivot):
    """A row made 0 at a place by one that leads there, and divided by the pivot of the step ahead.

    All its numbers are determinants of parts of the first rows, so the division leaves no rest.
    """
    top = lead[place]
    less = row[place]
    crossed = [top * number - less * its for number, its in zip(row, lead)]
    if by > 0:
        part = inverse(by, pivot)
        return [number * part % by for number in crossed]
    return [number // pivot for number in crossed]


def _first_at(rows, place):
    """The number of the first row that is not 0 at a place, or None."""
    for number, row in enumerate(rows):
        if row[place] != 0:
            return number
    return None


def _columns(rows):
    return [tuple([row[place] for row in rows]) for place in range(len(rows[0]))]


def _combination(by, rows, factors):
    """At each place the sum of factor times worth."""
    return tuple([paired_sum(by, factors, column) for column in _columns(rows)])
