"""Nothing that is handed in is changed, equal calls tell equal things."""

import unittest

from opengates.books import Book, joined, melted, multiplied, renamed, renamings, twins
from opengates.errors import GateError
from opengates.scripts import exchanged, Script
from tests.helpers import any_values, looks


def books():
    return [
        Book("book 0\nmark a 1\nmark b 2\nkind k 0 1 1 0\nkind l 1 1 1 1"),
        Book("book 0\nmark a 1\nmark b -2\nmark c 3\nkind k 1 1 1 1 1 1 1 1 1"),
        Book("book 0\nmark z 1000000000000\nmark y 1\nkind k 2 2 2 2"),
        Book("book 5\nmark z 3\nkind k 2"),
    ]


def scripts():
    return [
        Script("script\na = one 1\nb = road k 1 1\nc = a * b"),
        Script("script\na = road k 1 2\nb = close 2 a\nc = turn 1 3 b\nd = turn 3 1 c\ne = add 1/2 d -3 d"),
        Script("script\na = one\nx1 = one 1 2 3 4"),
    ]


def calls():
    """Pairs of a function and its arguments, of all that books and scripts can be asked."""
    found = []
    for one in books():
        found += [(twins, [one]), (melted, [one]), (len, [one])]
        for other in books():
            found += [(call, [one, other]) for call in (renamings, multiplied, joined)]
            found.append((lambda one, other: (one == other, one != other, one in [other], other in one), [one, other]))
        for value in any_values() + [("q", "p"), ("q", "p", "o"), ["q", "p"], ("q",), "a", "k"]:
            found += [(renamed, [one, value]), (one.weight, [value]), (one.worth, [value, "a", "b"]),
                      (one.worth, ["k", value, "a"]), (one.worth, ["k", "a", value]), (lambda one, value: value in one, [one, value])]
    for one in scripts():
        found += [(lambda one: -one, [one]), (one.closed, []), (len, [one]), (lambda one: one.closed(), [one])]
        for other in scripts() + [one]:
            found += [(lambda one, other: one * other, [one, other]), (lambda one, other: one + other, [one, other]),
                      (lambda one, other: one - other, [one, other]), (lambda one, other: one == other, [one, other])]
            found += [(exchanged, [one, name, other]) for name in ("a", "b", "c", "no", None, ["a"], {"a": ["b"]})]
        for value in any_values() + ["a", 1, 2, 4]:
            found += [(one.turned, [1, value]), (one.turned, [value, 3]), (one.gates_of, [value]),
                      (lambda one, value: value in one, [one, value])]
    for value in any_values():
        found += [(Book, [value]), (Script, [value])]
    return found


def outcome(call, arguments):
    """What a call tells, or raises, with all that can be seen of it."""
    try:
        return looks(call(*arguments))
    except GateError as error:
        return (type(error).__name__, looks(error.value))


class Unchanged(unittest.TestCase):
    def test_arguments_and_objects_are_as_they_were(self):
        for call, arguments in calls():
            holder = getattr(call, "__self__", None)
            before = (looks(arguments), looks(vars(holder)) if isinstance(holder, (Book, Script)) else None)
            first = outcome(call, arguments)
            behind = (looks(arguments), looks(vars(holder)) if isinstance(holder, (Book, Script)) else None)
            self.assertEqual(before, behind)
            self.assertEqual(outcome(call, arguments), first)

    def test_results_hold_nothing_that_can_be_changed(self):
        def only_fixed(value):
            if isinstance(value, tuple):
                return all(only_fixed(part) for part in value)
            return isinstance(value, (int, str, Book, Script))

        for one in books():
            self.assertTrue(only_fixed((one.text, one.by, one.marks, one.kinds, twins(one), renamings(one, one))))
        for one in scripts():
            self.assertTrue(only_fixed((one.text, one.gates, one.width, one.lines, one.is_plain, one.gates_of("a"))))

    def test_operands_in_place_are_as_they_were(self):
        one, other = scripts()[:2]
        kept, before = one, looks(one)
        one *= other
        one = kept
        one += other
        self.assertEqual(looks(kept), before)
        self.assertIsNot(one, kept)


if __name__ == "__main__":
    unittest.main()
