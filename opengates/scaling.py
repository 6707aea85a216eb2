"""Factors too long for a line of a script, told by several."""

from math import isqrt

from opengates.words import MOST_FIGURES
from opengates.worths import UNIT

# Far enough below what a line can tell, and a literal that is not too long.
PART = (10 ** 64) ** 14
MOST_PRIME = 1000


def scaled_term(writer, factor, name):
    """A factor that a line can tell, and a line: multiplied they are a factor times the line of this name."""
    top, bottom = factor
    most = _least_too_long()
    if abs(top) < most and bottom < most:
        return (factor, name)
    found = _times_whole(writer, top, name)
    for part in _parts(bottom, most):
        found = writer.summed([((1, part), found)])
    return (UNIT, found)


def _least_too_long():
    number = 1
    for _ in range(MOST_FIGURES):
        number = number * 10
    return number


def _times_whole(writer, number, name):
    """The name of a line that is an integer times the line of this name, some figures after the other."""
    rest = abs(number)
    parts = []
    while rest > 0:
        rest, part = divmod(rest, PART)
        parts.append(part if number > 0 else -part)
    found = writer.summed([((0, 1), name)])
    for part in reversed(list(parts)):
        found = writer.summed([((PART, 1), found), ((part, 1), name)])
    return found


def _parts(number, most):
    """Numbers that a line can tell, and whose product is this one, so far as some can be found."""
    parts = []
    part = 1
    rest = number
    for prime in range(2, MOST_PRIME):
        while rest > 1 and rest % prime == 0:
            rest = rest // prime
            part = part * prime
            if part >= PART:
                parts.append(part)
                part = 1
    parts.append(part)
    return [its for its in parts + _roots(rest, most) if its > 1]


def _roots(number, most):
    """A number too long for a line as the product of its square roots, if it is a square."""
    root = isqrt(number)
    if number < most or root * root != number:
        return [number]
    return _roots(root, most) + _roots(root, most)
