"""Nothing that is handed in is changed, equal calls tell equal things."""

import unittest

from opengates.alike import alike, kinds_of, least_width, parted, shows_alike, shows_parted
from opengates.arounds import about, Around, around_of, filled, paired
from opengates.books import Book, joined, melted, multiplied, renamed, renamings, twins
from opengates.desk import Desk
from opengates.errors import GateError
from opengates.journals import journal, read_journal
from opengates.lengths import in_ring, in_row, recurrence, ring_script, rings_alike, row_script, rows_alike
from opengates.lots import lot_weights, lots, orbits, same_lot, shows_same_lot, shows_stable
from opengates.made import made, pure, shows_made, shows_pure, shows_spanning, spanning
from opengates.nets import by_ways, net, script_of
from opengates.nothing import matters, nothing, relations, same_everywhere
from opengates.nothing import shows_matters, shows_nothing, shows_relations, shows_same_everywhere
from opengates.scripts import exchanged, Script
from opengates.spans import determinant, in_span, kernel, shows_in_span, shows_kernel
from opengates.tables import count, line_tables, Table, table
from opengates.yard import Yard
from tests.helpers import any_values, looks


def books():
    return [
        Book("book 0\nmark a 1\nmark b 2\nkind k 0 1 1 0\nkind l 1 1 1 1"),
        Book("book 0\nmark a 1\nmark b -2\nmark c 3\nkind k 1 1 1 1 1 1 1 1 1"),
        Book("book 0\nmark z 1000000000000\nmark y 1\nkind k 2 2 2 2"),
        Book("book 5\nmark z 3\nkind k 2"),
    ]


def scripts():
    return [
        Script("script\na = one 1\nb = road k 1 1\nc = a * b"),
        Script("script\na = road k 1 2\nb = close 2 a\nc = turn 1 3 b\nd = turn 3 1 c\ne = add 1/2 d -3 d"),
        Script("script\na = one\nx1 = one 1 2 3 4"),
    ]


def arounds():
    return [
        Around("around h 1\nr = road k 1 2\na = h * r\nb = close 1 a\nc = add 1/2 b -3 b\nd = close 2 c"),
        Around("around h 1 3\na = turn 1 2 h\nb = close 2 a\nc = close 3 b\nd = add 1 c"),
        Around("around h\na = one 1\nb = close 1 a\nc = h * b"),
    ]


def nets():
    return [
        (0, (), ()), (3, (("k", 0, 1), ("l", 1, 2)), ((1, 0), (3, 2))), (2, (("k", 0, 1), ("k", 0, 1)), ((2, 1),)),
        (5, tuple(("k", one, other) for one in range(5) for other in range(5)), ()), (9, (), ()), [0, (), ()], (1, [], ()), (14, (), ()),
    ]


def matrices():
    one, two, half, none = (1, 1), (2, 1), (1, 2), (0, 1)
    return [((one, two), (none, one)), ((one, two), (two, (4, 1))), ((one, one, one),), ((half,),), [(one,)], ([one],), ((one, two), (one,))]


def calls_of_nets_and_tables():
    found = []
    for book in books():
        for script in scripts():
            found += [(call, [book, script]) for call in (table, count, line_tables)]
            found += [(count, [book, script.closed()]), (paired, [book, script, script]), (paired, [book, script, scripts()[0]])]
        for one in nets():
            for row in ((), ("a",), ("a", "b"), ["a"], None, ("z",)):
                found.append((by_ways, [book, one, row]))
        tables = [table(book, script) for script in scripts() if book.by != 5 and "l" in book.kinds] + [table(book, Script("script\na = one 1"))]
        for one in tables:
            found += [(lambda one, row: one[row], [one, row]) for row in (("a",), ("a", "b"), ["a"], None, ())]
            for other in tables:
                found += [(lambda one, other: one + other, [one, other]), (lambda one, other: one * other, [one, other]),
                          (lambda one, other: (one == other, one != other), [one, other])]
    found += [(net, [script]) for script in scripts()[:2] + [scripts()[0].closed(), scripts()[0] * scripts()[2]]]
    return found + [(script_of, [one]) for one in nets()]


def calls_of_arounds_and_spans():
    found = []
    for one in arounds():
        found.append((about, [one]))
        for script in scripts():
            found += [(filled, [one, script]), (around_of, [script])]
        found += [(filled, [one, about(one)]), (lambda one, other: (one == other, one != other), [one, arounds()[0]])]
    for by in (0, 2, 5, True, 4):
        for rows in matrices():
            found += [(kernel, [by, rows]), (determinant, [by, rows])]
            for row in (((1, 1), (0, 1)), ((3, 1), (6, 1)), [(1, 1), (1, 1)], None):
                found.append((in_span, [by, rows, row]))
                for value in (("sum", ((1, 1), (1, 1))), ["sum", [(1, 1)]], ("barred", ((2, 1), (-1, 1))), {"sum": [1]}):
                    found.append((shows_in_span, [by, rows, row, value]))
            for value in ((), (((-2, 1), (1, 1)),), [((-2, 1), (1, 1))], ([(-2, 1), (1, 1)],), {0: [1]}):
                found.append((shows_kernel, [by, rows, value]))
    return found


def calls_of_lots_and_more():
    book, script = books()[0], scripts()[1]
    family = lots((book,), 1)
    found = []
    for value in any_values() + [family, list(family), [book], (book,), (book, book), ["a"], ("a",), [[(1, 1)]], ("same", [family]), 1, 2]:
        found += [(call, [value, 1]) for call in (lots, kinds_of, parted)]
        found += [(call, [(book, book), 1, value]) for call in (shows_stable, shows_parted)]
        found += [(call, [book, value]) for call in (orbits,)]
        found += [(call, [book, 2, value]) for call in (lot_weights, pure, spanning, matters, relations)]
        found += [(same_lot, [book, 2, value, value]), (same_lot, [book, value, ("a",), ("b",)]), (shows_same_lot, [book, 2, ("a",), ("b",), value]),
                  (made, [book, 2, 1, value]), (shows_made, [book, 2, 1, value, value]), (shows_made, [book, 2, 1, ((1, 1), (0, 1)), value]),
                  (shows_pure, [book, 2, ("a",), value]), (shows_spanning, [book, 2, 1, value]), (nothing, [book, value, script]),
                  (shows_nothing, [book, 2, script, value]), (same_everywhere, [book, value, script, script]), (shows_matters, [book, 2, 1, value]),
                  (shows_same_everywhere, [book, 2, script, script, value]), (shows_relations, [book, 2, (script,), value]),
                  (shows_relations, [book, 2, value, value]), (alike, [book, book, value]), (shows_alike, [book, book, 1, value]),
                  (row_script, [script, value]), (ring_script, [script, value]), (in_row, [book, script, value]), (in_ring, [book, script, value]),
                  (read_journal, [value]), (Desk, [value])]
        for name in ("line", "exchange", "drop", "gates_of", "worths_of", "closed", "script"):
            held = Yard(book)
            held.line("a = one 1")
            found.append((lambda held, name, value: getattr(held.copy(), name)(*([value, value] if name == "exchange" else [value])), [held, name, value]))
        found.append((lambda value: Desk(book.text + "\nyard").say(value), [value]))
    for one in books():
        for other in books():
            found += [(least_width, [one, other]), (alike, [one, other, 1]), (rows_alike, [one, script, other, script]), (rings_alike, [one, script, other, script])]
        found += [(recurrence, [one, script]), (nothing, [one, 3, script]), (same_everywhere, [one, 3, script, -script]), (relations, [one, 3, (script, script)])]
        found += [(journal, [Yard(one)]), (Yard, [one])]
    return found


def calls():
    """Pairs of a function and its arguments, of all that books and scripts can be asked."""
    found = []
    for one in books():
        found += [(twins, [one]), (melted, [one]), (len, [one])]
        for other in books():
            found += [(call, [one, other]) for call in (renamings, multiplied, joined)]
            found.append((lambda one, other: (one == other, one != other, one in [other], other in one), [one, other]))
        for value in any_values() + [("q", "p"), ("q", "p", "o"), ["q", "p"], ("q",), "a", "k"]:
            found += [(renamed, [one, value]), (one.weight, [value]), (one.worth, [value, "a", "b"]),
                      (one.worth, ["k", value, "a"]), (one.worth, ["k", "a", value]), (lambda one, value: value in one, [one, value])]
    for one in scripts():
        found += [(lambda one: -one, [one]), (one.closed, []), (len, [one]), (lambda one: one.closed(), [one])]
        for other in scripts() + [one]:
            found += [(lambda one, other: one * other, [one, other]), (lambda one, other: one + other, [one, other]),
                      (lambda one, other: one - other, [one, other]), (lambda one, other: one == other, [one, other])]
            found += [(exchanged, [one, name, other]) for name in ("a", "b", "c", "no", None, ["a"], {"a": ["b"]})]
        for value in any_values() + ["a", 1, 2, 4]:
            found += [(one.turned, [1, value]), (one.turned, [value, 3]), (one.gates_of, [value]),
                      (lambda one, value: value in one, [one, value])]
    for value in any_values():
        found += [(Book, [value]), (Script, [value]), (Around, [value]), (script_of, [value]), (by_ways, [books()[0], value, value]),
                  (in_span, [value, value, value]), (in_span, [0, value, value]), (in_span, [0, matrices()[0], value]),
                  (shows_in_span, [0, matrices()[0], matrices()[0][0], value]), (shows_kernel, [0, matrices()[0], value])]
    return found + calls_of_nets_and_tables() + calls_of_arounds_and_spans() + calls_of_lots_and_more()


def outcome(call, arguments):
    """What a call tells, or raises, with all that can be seen of it."""
    try:
        return looks(call(*arguments))
    except GateError as error:
        return (type(error).__name__, looks(error.value))


class Unchanged(unittest.TestCase):
    def test_arguments_and_objects_are_as_they_were(self):
        for call, arguments in calls():
            holder = getattr(call, "__self__", None)
            before = (looks(arguments), looks(vars(holder)) if isinstance(holder, (Book, Script)) else None)
            first = outcome(call, arguments)
            behind = (looks(arguments), looks(vars(holder)) if isinstance(holder, (Book, Script)) else None)
            self.assertEqual(before, behind)
            self.assertEqual(outcome(call, arguments), first)

    def test_results_hold_nothing_that_can_be_changed(self):
        def only_fixed(value):
            if isinstance(value, tuple):
                return all(only_fixed(part) for part in value)
            return isinstance(value, (int, str, Around, Book, Script, Table))

        for one in books():
            self.assertTrue(only_fixed((one.text, one.by, one.marks, one.kinds, twins(one), renamings(one, one))))
        for one in scripts():
            self.assertTrue(only_fixed((one.text, one.gates, one.width, one.lines, one.is_plain, one.gates_of("a"))))

    def test_new_results_hold_nothing_that_can_be_changed(self):
        def only_fixed(value):
            if isinstance(value, (tuple, Table)):
                return all(only_fixed(part) for part in (value if isinstance(value, tuple) else vars(value).values()))
            return value is None or isinstance(value, (int, str, Around, Book, Script, Yard, Desk))

        many = 0
        for call, arguments in calls_of_nets_and_tables() + calls_of_arounds_and_spans() + calls_of_lots_and_more():
            try:
                told = call(*arguments)
            except GateError:
                continue
            self.assertTrue(only_fixed(told), (call, arguments))
            many += 1
        self.assertGreater(many, 200)
        for one in arounds():
            self.assertTrue(only_fixed((one.text, one.hole, one.gates, one.width, one.lines)))

    def test_operands_in_place_are_as_they_were(self):
        one, other = scripts()[:2]
        kept, before = one, looks(one)
        one *= other
        one = kept
        one += other
        self.assertEqual(looks(kept), before)
        self.assertIsNot(one, kept)
        one = kept = table(books()[0], scripts()[0])
        before = looks(kept)
        one *= one
        one += one
        self.assertEqual(looks(kept), before)
        self.assertIsNot(one, kept)


if __name__ == "__main__":
    unittest.main()
