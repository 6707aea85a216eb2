"""Families of lots of rows of marks, and whether they are stable.

A row is told with the number of its book: (number, row). What is stable is tested row by row:
all rows of a lot have to be seen alike.
"""

from opengates.checks import is_integer, is_row
from opengates.rows import rows_of


def told_rows(books, length):
    """All rows of so many marks of some books, as they stand, each with the number of its book."""
    return [(number, row) for number, book in enumerate(books) for row in rows_of(book.marks, length)]


def turned_row(row, one, other):
    """A row with the marks at two places exchanged."""
    marks = list(row)
    marks[one] = row[other]
    marks[other] = row[one]
    return tuple(marks)


def closing_sums(book, number, row, lots):
    """For each lot to which a mark behind a row leads, the sum of the weights of such marks.

    lots is a dict that has the lot of each (number, row).
    """
    sums = {}
    for mark in book.marks:
        lot = lots[number, row + (mark,)]
        total = sums.get(lot, 0) + book.weight(mark)
        sums[lot] = total % book.by if book.by > 0 else total
    return sums


def lots_of_family(books, k, value):
    """A dict of the number of the lot of each (number, row), or None for what is no family."""
    if not isinstance(value, tuple) or len(value) != k + 1:
        return None
    lots = {}
    many = 0
    rows = 0
    for length, part in enumerate(value):
        if not isinstance(part, tuple) or not all([_is_lot(books, length, lot) for lot in part]):
            return None
        for lot in part:
            for told in lot:
                lots[told] = many
            many = many + 1
            rows = rows + len(lot)
    wanted = sum([len(told_rows(books, length)) for length in range(k + 1)])
    # A row that stands twice makes more rows than there are in the dict.
    return lots if rows == wanted and len(lots) == wanted else None


def is_stable(books, k, lots):
    """Whether the family is stable that has these lots."""
    sights = {}
    for told, lot in lots.items():
        sight = _sight(books, k, lots, told)
        if sights.setdefault(lot, sight) != sight:
            return False
    return True


def is_stable_family(books, k, value):
    """Whether any value is a stable family of this width."""
    lots = lots_of_family(books, k, value)
    return lots is not None and is_stable(books, k, lots)


def are_together(family, one, other):
    """Whether two (number, row) are in one lot of a family."""
    return any([one in lot and other in lot for part in family for lot in part])


def _is_lot(books, length, value):
    """Whether a value is a tuple of one or more (number, row) of this length."""
    if not isinstance(value, tuple) or len(value) == 0:
        return False
    return all([_is_told_row(books, length, part) for part in value])


def _is_told_row(books, length, value):
    if not isinstance(value, tuple) or len(value) != 2:
        return False
    number, row = value
    if not is_integer(number) or not 0 <= number < len(books):
        return False
    return is_row(row, books[number], length)


def _sight(books, k, lots, told):
    """What must be the same for all rows of one lot."""
    number, row = told
    book = books[number]
    places = range(len(row))
    worths = [book.worth(kind, row[one], row[other]) for kind in book.kinds for one in places for other in places]
    turned = [lots[number, turned_row(row, one, other)] for one in places for other in places if one < other]
    less = lots[number, row[:-1]] if row else None
    sums = closing_sums(book, number, row, lots) if len(row) < k else {}
    # A sum that comes to 0 is as if no mark led there.
    led = sorted([(lot, total) for lot, total in sums.items() if total != 0])
    return (worths, turned, less, led)
