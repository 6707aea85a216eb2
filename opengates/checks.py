"""What values are: tests that take any value."""


def is_integer(value):
    """Whether a value is an int; True and False are none."""
    return isinstance(value, int) and not isinstance(value, bool)


def is_gate(value):
    """Whether a value is the number of a gate."""
    return is_integer(value) and 1 <= value <= 4
