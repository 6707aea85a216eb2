"""Books of one to four marks: with twins, equal weights, weights that come to 0, by 0 and by primes."""

import itertools

from opengates.books import Book
from tests.again import how_many_rows

MOST = 130


def book(by, weights, *kinds):
    """The Book with marks a, b, .. of these weights, and kinds k, l, m of these worths."""
    rows = [f"book {by}"] + [f"mark {name} {weight}" for name, weight in zip("abcd", weights)]
    rows += [f"kind {name} {worths}" for name, worths in zip("klm", kinds)]
    return Book("\n".join(rows))


ONE = book(0, [2], "3")
ONE_TOO = book(0, [-5], "0")
SAME = book(0, [1, 1], "0 1 1 0")
LOPSIDED = book(0, [1, 2], "0 1 1 0")
ODD = book(0, [1, -1], "1 2 2 1")
LED = book(0, [1, 1], "0 1 0 0")
ALL_TWINS = book(0, [1, 3], "3 3 3 3")
EQUAL = book(0, [1, 1], "1 0 0 1")
GREAT = book(0, [10 ** 12, -10 ** 12], "-1000000000000 7 1000000000000 7")
PATH = book(0, [1, 1, 1], "0 1 0 1 0 1 0 1 0")
COLOURS = book(0, [1, 1, 1], "0 1 1 1 0 1 1 1 0")
ROUND = book(0, [1, 1, 1], "0 1 0 0 0 1 1 0 0")
NOUGHT = book(0, [1, 1, -2], "5 5 5 5 5 5 5 5 5")
UNLIKE = book(0, [1, -1, 2], "0 1 2 1 0 2 2 2 1")
TWO_KINDS = book(0, [1, 1], "0 1 1 0", "1 1 0 1")
THREE_KINDS = book(0, [2, -1, 1], "0 1 1 1 0 1 1 1 0", "1 0 0 0 1 0 0 0 1", "0 1 0 0 0 1 1 0 0")
SQUARE = book(0, [1, 1, 1, 1], "0 1 0 1 1 0 1 0 0 1 0 1 1 0 1 0")
PAIRS = book(0, [1, -1, 1, -1], "0 1 0 0 1 0 0 0 0 0 0 1 0 0 1 0")
CHAIN = book(0, [1, 2, 2, 1], "0 1 0 0 1 0 1 0 0 1 0 1 0 0 1 0")
BY_TWO = book(2, [1, 1], "0 1 1 0")
BY_TWO_THREE = book(2, [1, 1, 1], "0 1 0 1 0 1 0 1 0")
BY_TWO_ONE = book(2, [1], "1")
BY_THREE = book(3, [1, 1, 1], "0 1 1 1 0 1 1 1 0")
BY_THREE_ODD = book(3, [1, 2], "1 2 2 1")
BY_FIVE = book(5, [1, 2, 3], "0 4 1 4 0 2 1 2 3")
BY_FIVE_FOUR = book(5, [1, 4, 1, 4], "0 1 0 0 1 0 0 0 0 0 0 1 0 0 1 0")
BY_GREATEST = book(97, [1, 96, 50], "0 1 96 1 0 96 96 96 2", "1 1 1 1 1 1 1 1 1")

BOOKS = [ONE, ONE_TOO, SAME, LOPSIDED, ODD, LED, ALL_TWINS, EQUAL, GREAT, PATH, COLOURS, ROUND, NOUGHT, UNLIKE, TWO_KINDS,
         THREE_KINDS, SQUARE, PAIRS, CHAIN, BY_TWO, BY_TWO_THREE, BY_TWO_ONE, BY_THREE, BY_THREE_ODD, BY_FIVE, BY_FIVE_FOUR,
         BY_GREATEST]


def is_one_sort(one, other):
    return one.by == other.by and one.kinds == other.kinds


def with_widths(most=MOST):
    """Pairs of a book and a width with few enough rows."""
    return [(one, k) for one in BOOKS for k in (1, 2, 3, 4) if how_many_rows((one,), k) <= most]


def pairs(most=MOST):
    """Triples of two books of one sort and a width with few enough rows."""
    return [(one, other, k) for one, other in itertools.product(BOOKS, repeat=2) if is_one_sort(one, other)
            for k in (1, 2, 3, 4) if how_many_rows((one, other), k) <= most]
