"""What several tests need: values of every kind, and looks at errors and objects."""

import copy

from opengates.arounds import Around
from opengates.books import Book
from opengates.desk import Desk
from opengates.scripts import Script
from opengates.tables import Table, table
from opengates.yard import Yard


def nested(value, depth):
    """The value in so many tuples, lists and dicts, one in the other."""
    for at in range(depth):
        value = ((value,), [value], {"in": value})[at % 3]
    return value


def not_strings():
    """A value of every kind that is no string."""
    return [
        None, True, False, 0, 1, -1, 2, 10 ** 30, (), (1,), ("a",), ("a", "b"), [], ["a"], ["book 0"],
        {}, {"a": 1}, {1: ("a", [True])}, nested("a", 30), nested([], 29), nested(1, 28),
        Book("book 0\nmark a 1\nkind k 1"), Script("script\na = one 1"),
        [Book("book 0\nmark a 1\nkind k 1")], (Script("script\na = one 1"), {"a": ()}),
        Around("around h 1\na = close 1 h"), table(Book("book 0\nmark a 1\nkind k 1"), Script("script\na = one 1")),
        (Around("around h\na = add 1 h"),), Yard(Book("book 0\nmark a 1\nkind k 1")), [Desk("book 0\nmark a 1\nkind k 1\nyard")],
    ]


def any_values():
    """A value of every kind; of the strings none is a name in the tests that use this."""
    return not_strings() + ["", " ", "zz", "A", "1", "a ", " a", "a\n", "a b", "script", "x" * 20000]


def error_of(call, *arguments, **named):
    """The error that a call raises, or None."""
    try:
        call(*arguments, **named)
    except ValueError as error:
        return error
    return None


def expect(test, error, value, call, *arguments, **named):
    """The call raises just this error, and it keeps just this value."""
    raised = error_of(call, *arguments, **named)
    test.assertIs(type(raised), error, (arguments, named))
    test.assertIs(type(raised.value), type(value))
    test.assertEqual(raised.value, value)


def expect_very(test, error, value, call, *arguments, **named):
    """As expect, but it is the very value that is kept."""
    raised = error_of(call, *arguments, **named)
    test.assertIs(type(raised), error, (arguments, named))
    test.assertIs(raised.value, value)


def looks(value):
    """All that can be seen of a value, its kinds and what objects hold included."""
    if isinstance(value, (Around, Book, Script, Table)):
        return (type(value).__name__, looks(vars(value)))
    if isinstance(value, Yard):
        # What is worked out already is not seen.
        return ("Yard", looks((value.book, value.names, value.text, value.done, value.deeds)), undone(value))
    if isinstance(value, Desk):
        return ("Desk", looks(value.yard))
    if isinstance(value, (tuple, list)):
        return (type(value).__name__, [looks(part) for part in value])
    if isinstance(value, dict):
        return ("dict", [(looks(key), looks(part)) for key, part in value.items()])
    return (type(value).__name__, copy.deepcopy(value))


def undone(yard):
    """The deeds of a yard that can be done again."""
    other = yard.copy()
    while error_of(other.redo) is None:
        pass
    return other.deeds[yard.done:]
