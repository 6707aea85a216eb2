"""What values are: tests that take any value."""

PRIMES = (2, 3, 5, 7, 11, 13, 17, 19, 23, 29, 31, 37, 41, 43, 47, 53, 59, 61, 67, 71, 73, 79, 83, 89, 97)


def is_integer(value):
    """Whether a value is an int; True and False are none."""
    return isinstance(value, int) and not isinstance(value, bool)


def is_gate(value):
    """Whether a value is the number of a gate."""
    return is_integer(value) and 1 <= value <= 4


def is_by(value):
    """Whether a value is 0 or a prime from 2 to 97."""
    return is_integer(value) and (value == 0 or value in PRIMES)


def is_row(value, book, many):
    """Whether a value is a tuple of so many names of marks of a book."""
    return isinstance(value, tuple) and len(value) == many and all([mark in book for mark in value])


def is_short_row(value, book, most):
    """Whether a value is a tuple of at most so many names of marks of a book."""
    return isinstance(value, tuple) and len(value) <= most and is_row(value, book, len(value))


def gates_to(many):
    """The tuple of the gates from 1 to so many."""
    return tuple(range(1, many + 1))
