"""Bounds of what functions of books and a width are asked."""

from opengates.checks import is_integer
from opengates.errors import BadLength, BadWidth, OtherKinds, TooMany

MOST_WIDTH = 4
MOST_ROWS = 130


def need_width(k):
    """Raises BadWidth unless a value is a width."""
    if not is_integer(k) or not 1 <= k <= MOST_WIDTH:
        raise BadWidth(k)


def need_few_rows(books, most):
    """Raises TooMany if books have too many rows of none to so many marks, all together."""
    many = 0
    for book in books:
        own = 1
        for _ in range(most + 1):
            many = many + own
            own = own * len(book.marks)
    if many > MOST_ROWS:
        raise TooMany(many)


def need_length(m, most):
    """Raises BadLength unless a value is an integer from 0 to the most."""
    if not is_integer(m) or not 0 <= m <= most:
        raise BadLength(m)


def need_one_sort(one, other):
    """Raises OtherKinds with the other book unless it has the by and the kinds of the one."""
    if one.by != other.by or one.kinds != other.kinds:
        raise OtherKinds(other)
