"""Rows of worths: which of their combinations are nought, found by elimination over integers."""

from opengates.worths import inverse, over, paired_sum, scale_of, whole, worth_of


def kernel_of(by, rows):
    """A basis of the factors whose combination of rows is nought at every place."""
    scales = [scale_of(row) for row in rows]
    leads, pivot = _led(by, columns([whole(row, scale) for row, scale in zip(rows, scales)]))
    leading = [place for place, lead in leads]
    found = []
    for free in range(len(rows)):
        if free not in leading:
            numbers = [0] * len(rows)
            numbers[free] = pivot
            for place, lead in leads:
                numbers[place] = -lead[free]
            # A row that was made whole took its scale from its factor.
            worths = [worth_of(by, number * scale, 1) for number, scale in zip(numbers, scales)]
            found.append(tuple([over(by, worth, worth_of(by, pivot, 1)) for worth in worths]))
    return tuple(found)


def are_apart(by, rows):
    """Whether none of these rows is a combination of the others."""
    return len(rows) == 0 or kernel_of(by, rows) == ()


def combination(by, rows, factors):
    """At each place the sum of factor times worth."""
    return tuple([paired_sum(by, factors, column) for column in columns(rows)])


def columns(rows):
    """The columns of one row or more."""
    return [tuple([row[place] for row in rows]) for place in range(len(rows[0]))]


def crossed(by, row, lead, place, pivot):
    """A row made 0 at a place by one that leads there, and divided by the pivot of the step ahead.

    All its numbers are determinants of parts of the first rows, so the division leaves no rest.
    """
    top = lead[place]
    less = row[place]
    numbers = [top * number - less * its for number, its in zip(row, lead)]
    if by > 0:
        part = inverse(by, pivot)
        return [number * part % by for number in numbers]
    return [number // pivot for number in numbers]


def first_at(rows, place):
    """The number of the first row that is not 0 at a place, or None."""
    for number, row in enumerate(rows):
        if row[place] != 0:
            return number
    return None


def _led(by, rows):
    """Rows of integers that lead, and their pivot.

    A row that leads is a pair of a place and the row: there it is the pivot, and all others
    that lead are 0. What is told has the same combinations as rows, but for their factors.
    """
    leads = []
    left = rows
    pivot = 1
    for place in range(len(rows[0]) if rows else 0):
        at = first_at(left, place)
        if at is not None:
            lead = left[at]
            leads = [(its, crossed(by, row, lead, place, pivot)) for its, row in leads]
            leads.append((place, lead))
            left = [crossed(by, row, lead, place, pivot) for number, row in enumerate(left) if number != at]
            pivot = lead[place]
    return leads, pivot
