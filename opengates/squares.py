"""Squares of numbers: what links are worth that lie in a row, one behind the other."""

from opengates.rows import rows_of
from opengates.worked import last_worths, row_weights
from opengates.worths import scale_of, whole, worth_of


class Square:
    """What a link is worth, times the weights of its back, at each front and each back.

    rows has integers, all by one scale too great; weights are those of the fronts.
    """

    def __init__(self, book, script):
        ends = len(script.gates) // 2
        many = len(rows_of(book.marks, ends))
        worths = last_worths(book, script)
        self.by = book.by
        self.weights = [top for top, _ in row_weights(book, ends)]
        self.scale = scale_of(worths)
        numbers = whole(worths, self.scale)
        self.rows = []
        for at in range(0, many * many, many):
            row = [number * weight for number, weight in zip(numbers[at:at + many], self.weights)]
            self.rows.append(_reduced(self.by, row))


def power_of(square, many):
    """The rows of a square so many times with itself, and by what scale they are too great."""
    rows = square.rows
    # The first binary digit is the square itself.
    for at in reversed(range(many.bit_length() - 1)):
        rows = _laid(square.by, rows, rows)
        if many >> at & 1:
            rows = _laid(square.by, rows, square.rows)
    scale = 1
    # By a prime nothing is scaled, however many links there are.
    if square.scale > 1:
        for _ in range(many):
            scale = scale * square.scale
    return rows, scale


def first_powers(square, many):
    """The powers of a square, once to so many times with itself, each as above."""
    rows = square.rows
    scale = square.scale
    found = [(rows, scale)]
    for _ in range(many - 1):
        rows = _laid(square.by, rows, square.rows)
        scale = scale * square.scale
        found.append((rows, scale))
    return found


def row_worth(square, power):
    """What links in a row are worth with both ends closed, of whose square this is the power."""
    rows, scale = power
    total = sum([weight * sum(row) for weight, row in zip(square.weights, rows)])
    return worth_of(square.by, total, scale)


def ring_worth(square, power):
    """What links in a ring are worth, of whose square this is the power."""
    rows, scale = power
    return worth_of(square.by, sum([row[at] for at, row in enumerate(rows)]), scale)


def own_recurrence(square):
    """The factors by which each power of a square is a sum of those ahead of it, the last one first."""
    # Over integers each sum of diagonals can be divided by its number, also where a prime can't.
    many = len(square.rows)
    rows = _diagonal(many, 0)
    number = 1
    scale = 1
    found = []
    for at in range(1, many + 1):
        added = [[its + more for its, more in zip(row, line)] for row, line in zip(rows, _diagonal(many, number))]
        rows = _laid(0, square.rows, added)
        number = -sum([row[place] for place, row in enumerate(rows)]) // at
        scale = scale * square.scale
        found.append(worth_of(square.by, -number, scale))
    return tuple(found)


def _laid(by, one, other):
    """The product of two squares of numbers."""
    columns = [[row[place] for row in other] for place in range(len(other))]
    return [_reduced(by, [sum([its * more for its, more in zip(row, column)]) for column in columns]) for row in one]


def _diagonal(many, number):
    return [[number if at == place else 0 for place in range(many)] for at in range(many)]


def _reduced(by, numbers):
    return [number % by for number in numbers] if by > 0 else numbers
