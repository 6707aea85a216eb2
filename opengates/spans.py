"""Sums of rows: what combinations of rows there are, over fractions and over remainders."""

from opengates.checks import is_by
from opengates.errors import BadBy, BadRow, BadRows
from opengates.solving import are_apart, columns, combination, crossed, first_at, kernel_of
from opengates.worths import NOUGHT, are_worths, minus, over, paired_sum, scale_of, whole, worth_of

MOST = 16


def in_span(by, rows, row):
    """How a row is a sum of multiples of rows, or places that bar it."""
    _need_matrix(by, rows)
    _need_row(by, rows, row)
    for relation in kernel_of(by, rows + (row,)):
        if relation[-1] != NOUGHT:
            own = minus(by, NOUGHT, relation[-1])
            return ("sum", tuple([over(by, factor, own) for factor in relation[:-1]]))
    # No relation has a part of the row, so some relation of the columns bars it.
    barring = [places for places in kernel_of(by, columns(rows)) if paired_sum(by, places, row) != NOUGHT]
    return ("barred", barring[0])


def shows_in_span(by, rows, row, value):
    """Whether a value is such a sum, or bars the row."""
    _need_matrix(by, rows)
    _need_row(by, rows, row)
    if not isinstance(value, tuple) or len(value) != 2 or not isinstance(value[0], str):
        return False
    word, worths = value
    if word == "sum":
        return are_worths(by, worths, len(rows)) and combination(by, rows, worths) == row
    if word != "barred" or not are_worths(by, worths, len(row)):
        return False
    if paired_sum(by, worths, row) == NOUGHT:
        return False
    return all([paired_sum(by, worths, its) == NOUGHT for its in rows])


def kernel(by, rows):
    """A basis of the factors whose combination is nought at every place."""
    _need_matrix(by, rows)
    return kernel_of(by, rows)


def shows_kernel(by, rows, value):
    """Whether a value is such a basis."""
    _need_matrix(by, rows)
    if not isinstance(value, tuple) or len(value) != len(kernel_of(by, rows)):
        return False
    if not all([are_worths(by, relation, len(rows)) for relation in value]):
        return False
    noughts = (NOUGHT,) * len(rows[0])
    if not all([combination(by, rows, relation) == noughts for relation in value]):
        return False
    # As many as each basis has, so they are one if none is a combination of the others.
    return are_apart(by, value)


def determinant(by, rows):
    """The sum of the products of one place of each row, with their signs."""
    _need_matrix(by, rows)
    if len(rows) != len(rows[0]):
        raise BadRows(rows)
    scales = [scale_of(row) for row in rows]
    left = [whole(row, scale) for row, scale in zip(rows, scales)]
    sign = 1
    pivot = 1
    for place in range(len(rows)):
        at = first_at(left, place)
        if at is None:
            return NOUGHT
        lead = left[at]
        # Each row that the leading one passes on its way to the top changes the sign.
        sign = sign if at % 2 == 0 else -sign
        left = [crossed(by, row, lead, place, pivot) for number, row in enumerate(left) if number != at]
        pivot = lead[place]
    bottom = 1
    for scale in scales:
        bottom = bottom * scale
    return worth_of(by, sign * pivot, bottom)


def _need_matrix(by, rows):
    if not is_by(by):
        raise BadBy(by)
    if not isinstance(rows, tuple) or not 1 <= len(rows) <= MOST:
        raise BadRows(rows)
    if not isinstance(rows[0], tuple) or not 1 <= len(rows[0]) <= MOST:
        raise BadRows(rows)
    if not all([are_worths(by, row, len(rows[0])) for row in rows]):
        raise BadRows(rows)


def _need_row(by, rows, row):
    if not are_worths(by, row, len(rows[0])):
        raise BadRow(row)
