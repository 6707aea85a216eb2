"""Lines worked out in a book: what each of them is worth at every row of its gates.

`told` is throughout a dict that has, for the name of each line that is worked out, its
gates and the tuple of its worths.
"""

from opengates.errors import BadFactor, NoKind
from opengates.forms import lines_of_last
from opengates.rows import places_at, rows_of
from opengates.worths import NOUGHT, UNIT, paired_sum, plus, times, worth_of


def need_fit(book, script):
    """Raises the script errors of a script."""
    need_fitting_lines(book, script.lines)


def need_fitting_lines(book, lines):
    """Raises script errors: kinds that the book has not, ahead of factors that it cannot take."""
    for _, form, parts in lines:
        if form == "road" and parts[0] not in book.kinds:
            raise NoKind(parts[0])
    for _, form, parts in lines:
        if form == "add" and book.by > 0:
            _need_factors(book.by, parts)


def worked_out(book, script, lines):
    """What is told of some lines of a script, which hang on none but these."""
    told = {}
    for name, form, parts in lines:
        gates = script.gates_of(name)
        told[name] = (gates, line_worths(book, gates, form, parts, told))
    return told


def last_worths(book, script):
    """The tuple of the worths of what a script tells."""
    # Lines on which the last one does not hang may be as great as they like.
    told = worked_out(book, script, lines_of_last(script.lines))
    return told[script.lines[-1][0]][1]


def line_worths(book, gates, form, parts, told):
    """The tuple of the worths of a line with these gates, whose operands are told."""
    if form == "one":
        return tuple([UNIT for _ in rows_of(book.marks, len(gates))])
    if form == "road":
        return _road(book, gates, parts)
    if form == "add":
        return _sum(book.by, parts, told)
    if form == "close":
        return _closed(book, gates, parts[0], told[parts[1]])
    if form == "turn":
        return _turned(book, gates, parts, told[parts[2]])
    return laid_together(book, gates, told[parts[0]], told[parts[1]])


def laid_together(book, gates, one, other):
    """The worths of the product, at all rows of these gates, of two pairs of gates and worths."""
    ones = _spread(book, gates, one[0], one[1])
    others = _spread(book, gates, other[0], other[1])
    return tuple([times(book.by, its, more) for its, more in zip(ones, others)])


def row_weight(book, row):
    """The product of the weights of a row's marks, a worth."""
    weight = 1
    for mark in row:
        weight = weight * book.weight(mark)
    return worth_of(book.by, weight, 1)


def row_weights(book, many):
    """The weights of all rows of so many marks, as they stand."""
    return [row_weight(book, row) for row in rows_of(book.marks, many)]


def _need_factors(by, parts):
    for factor, _ in parts:
        if factor[1] % by == 0:
            raise BadFactor(factor)


def _road(book, gates, parts):
    kind, start, end = parts
    found = []
    for row in rows_of(book.marks, len(gates)):
        worth = book.worth(kind, row[gates.index(start)], row[gates.index(end)])
        found.append(worth_of(book.by, worth, 1))
    return tuple(found)


def _sum(by, parts, told):
    found = [NOUGHT for _ in told[parts[0][1]][1]]
    for (top, bottom), name in parts:
        factor = worth_of(by, top, bottom)
        found = [plus(by, worth, times(by, factor, more)) for worth, more in zip(found, told[name][1])]
    return tuple(found)


def _closed(book, gates, gate, operand):
    """What is left at these gates when one gate more, that of the operand, is closed."""
    weights = [worth_of(book.by, book.weight(mark), 1) for mark in book.marks]
    many = len(weights)
    # With the closed gate at the end, all its marks stand side by side.
    worths = _spread(book, gates + (gate,), operand[0], operand[1])
    return tuple([paired_sum(book.by, weights, worths[at:at + many]) for at in range(0, len(worths), many)])


def _turned(book, gates, parts, operand):
    turned = {parts[0]: parts[1], parts[1]: parts[0]}
    return tuple(_spread(book, gates, [turned.get(gate, gate) for gate in operand[0]], operand[1]))


def _spread(book, gates, wanted, worths):
    """For each row of the gates, the worth at the row of its marks at the wanted gates."""
    return [worths[at] for at in places_at(len(book.marks), gates, wanted)]
