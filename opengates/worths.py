"""Worths: fractions in least terms by 0, remainders (r, 1) by a prime."""

from math import gcd, lcm

from opengates.checks import is_integer

NOUGHT = (0, 1)
UNIT = (1, 1)


def is_worth(by, value):
    """Whether a value is a worth by 0, or by this prime."""
    if not isinstance(value, tuple) or len(value) != 2:
        return False
    top, bottom = value
    if not is_integer(top) or not is_integer(bottom):
        return False
    if by > 0:
        return bottom == 1 and 0 <= top < by
    return bottom > 0 and gcd(top, bottom) == 1


def are_worths(by, value, many):
    """Whether a value is a tuple of so many worths."""
    return isinstance(value, tuple) and len(value) == many and all([is_worth(by, part) for part in value])


def worth_of(by, top, bottom):
    """The worth that a fraction stands for; a prime does not divide its bottom."""
    if by > 0:
        return (top * inverse(by, bottom) % by, 1)
    return _least(top, bottom)


def plus(by, one, other):
    """The sum of two worths."""
    top, bottom = one
    more, below = other
    if by > 0:
        return ((top + more) % by, 1)
    if bottom == below:
        return _least(top + more, bottom)
    return _least(top * below + more * bottom, bottom * below)


def minus(by, one, other):
    """One worth less another one."""
    top, bottom = other
    return plus(by, one, (-top, bottom))


def times(by, one, other):
    """The product of two worths."""
    if by > 0:
        return (one[0] * other[0] % by, 1)
    return _least(one[0] * other[0], one[1] * other[1])


def over(by, one, other):
    """One worth divided by another one, which is not nought."""
    top, bottom = other
    if by > 0:
        return times(by, one, (inverse(by, top), 1))
    # The sign goes to the top, as a bottom is from 1 on.
    return times(by, one, (bottom, top) if top > 0 else (-bottom, -top))


def inverse(by, number):
    """What gives 1 if it is multiplied with a number that the prime does not divide."""
    rest = number % by
    found = 1
    while found * rest % by != 1:
        found += 1
    return found


def scale_of(worths):
    """The least number with which all of these worths are whole."""
    found = 1
    for _, bottom in worths:
        found = lcm(found, bottom)
    return found


def whole(worths, scale):
    """The integers that worths are if they are multiplied with their scale."""
    return [top * (scale // bottom) for top, bottom in worths]


def paired_sum(by, ones, others):
    """The sum of the products of each of ones with that of others at its place."""
    scale = scale_of(ones)
    more = scale_of(others)
    total = sum([one * other for one, other in zip(whole(ones, scale), whole(others, more))])
    return worth_of(by, total, scale * more)


def _least(top, bottom):
    if bottom == 1:
        return (top, 1)
    shared = gcd(top, bottom)
    return (top // shared, bottom // shared)
