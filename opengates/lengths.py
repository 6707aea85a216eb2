"""Lengths: a link that is repeated, in rows and in rings."""

from opengates.checks import is_integer
from opengates.errors import BadNumber, OtherBy, OtherGates
from opengates.squares import Square, first_powers, own_recurrence, power_of, ring_worth, row_worth
from opengates.worked import need_fit
from opengates.writers import Writer

PAIR = (1, 2)
FOUR = (1, 2, 3, 4)
MOST = 10 ** 18
MOST_BY_NOUGHT = 40


def row_script(script, n):
    """A script that is worth what n copies in a row are."""
    _need_pair(script, n, 1)
    writer = Writer()
    _row_name(writer, _link_name(writer, script), n)
    return writer.script()


def ring_script(script, n):
    """A script that counts what n copies in a ring do."""
    _need_pair(script, n, 2)
    writer = Writer()
    link = _link_name(writer, script)
    row = _row_name(writer, link, n - 1)
    # The last copy leads from the back of the others to their front.
    back = writer.line(f"turn 1 2 {link}")
    writer.closed(PAIR, writer.together([row, back]))
    return writer.script()


def in_row(book, script, n):
    """The worth of n copies in a row, both ends closed."""
    square = _need_copies(book, script, n)
    return row_worth(square, power_of(square, n))


def in_ring(book, script, n):
    """The worth of n copies in a ring."""
    square = _need_copies(book, script, n)
    return ring_worth(square, power_of(square, n))


def recurrence(book, script):
    """With which factors each number of copies goes on from those ahead of it."""
    _need_link(script)
    need_fit(book, script)
    return own_recurrence(Square(book, script))


def rows_alike(one, script, other, its):
    """Whether rows of both links are worth the same for all lengths, or the least at which they are not."""
    square, more = _need_two(one, script, other, its)
    many = len(square.rows) + len(more.rows)
    worths = [row_worth(square, power) for power in first_powers(square, many)]
    return _first_unlike(worths, [row_worth(more, power) for power in first_powers(more, many)])


def rings_alike(one, script, other, its):
    """Whether rings of both links are worth the same for all lengths, or the least at which they are not."""
    square, more = _need_two(one, script, other, its)
    many = len(square.rows) + len(more.rows)
    worths = [ring_worth(square, power) for power in first_powers(square, many)]
    return _first_unlike(worths, [ring_worth(more, power) for power in first_powers(more, many)])


def _need_pair(script, n, least):
    if script.gates != PAIR:
        raise OtherGates(script)
    _need_number(n, least, MOST)


def _need_number(n, least, most):
    if not is_integer(n) or not least <= n <= most:
        raise BadNumber(n)


def _need_link(script):
    if script.gates != PAIR and script.gates != FOUR:
        raise OtherGates(script)


def _need_copies(book, script, n):
    """The square of a book and a link, of which n copies are asked."""
    _need_link(script)
    _need_number(n, 1, MOST if book.by > 0 else MOST_BY_NOUGHT)
    need_fit(book, script)
    return Square(book, script)


def _need_two(one, script, other, its):
    _need_link(script)
    if one.by != other.by:
        raise OtherBy(other)
    _need_link(its)
    need_fit(one, script)
    need_fit(other, its)
    return Square(one, script), Square(other, its)


def _first_unlike(ones, others):
    """What is told of two rows of worths, the first one being that of one copy."""
    # Their difference goes on by one recurrence, as long as both squares together.
    for at, worth in enumerate(ones):
        if worth != others[at]:
            return ("unlike", at + 1)
    return ("alike",)


def _link_name(writer, script):
    return writer.write(script.lines)[script.lines[-1][0]]


def _row_name(writer, link, n):
    """The name of the last one of lines for n copies of a link in a row, doubled for each binary digit of n."""
    found = link
    for at in reversed(range(n.bit_length() - 1)):
        found = _joined(writer, found, found)
        if n >> at & 1:
            found = _joined(writer, found, link)
    return found


def _joined(writer, one, other):
    """The name of a line that has the front of one, the back of other, and what is between them closed."""
    front = writer.once(f"turn 2 3 {one}")
    back = writer.once(f"turn 1 3 {other}")
    return writer.line(f"close 3 {writer.together([front, back])}")
