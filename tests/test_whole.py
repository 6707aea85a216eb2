"""Over the whole program: arguments by position and by names in another sequence, equal calls with equal results."""

import unittest

from opengates.alike import alike, kinds_of, least_width, parted, shows_alike, shows_parted
from opengates.arounds import about, Around, around_of, filled, paired
from opengates.books import Book, joined, melted, multiplied, renamed, renamings, twins
from opengates.desk import Desk
from opengates.errors import GateError
from opengates.journals import journal, read_journal
from opengates.lengths import in_ring, in_row, recurrence, ring_script, rings_alike, row_script, rows_alike
from opengates.lots import lot_weights, lots, orbits, same_lot, shows_same_lot, shows_stable
from opengates.made import made, pure, shows_made, shows_pure, shows_spanning, spanning
from opengates.nets import by_ways, net, script_of
from opengates.nothing import matters, nothing, relations, same_everywhere
from opengates.nothing import shows_matters, shows_nothing, shows_relations, shows_same_everywhere
from opengates.scripts import exchanged, Script
from opengates.spans import determinant, in_span, kernel, shows_in_span, shows_kernel
from opengates.tables import count, line_tables, table, Table
from opengates.yard import Yard
from tests.helpers import looks
from tests.test_interface import PARAMETERS

JOURNAL = "book 0\nmark a 1\nmark b 2\nkind k 0 1 1 3\nyard\nline r = road k 1 2\nline p = close 2 r\nline q = add 1/2 p -3 p"


def book(by=0):
    return Book(f"book {by}\nmark a 1\nmark b 2\nkind k 0 1 1 3")


def small():
    return Book("book 0\nmark z 1\nkind k 2")


def leaf():
    return Script("script\nr = road k 1 2\np = close 2 r")


def link():
    return Script("script\nr = road k 1 2\np = add 1/2 r -2 r")


def around():
    return Around("around h 1\nr = road k 1 2\na = h * r\nb = close 1 a\nc = add 1/2 b -3 b\nd = close 2 c")


def yard():
    return read_journal(JOURNAL)


def worths():
    return ((1, 2), (-3, 1))


def matrix():
    return (((1, 1), (2, 1)), ((2, 1), (3, 1)))


def functions():
    """For each function of the interface, and each class, arguments by their names; made anew each time."""
    family = lots((book(),), 2)
    both = lots((book(), book()), 1)
    return {
        Book: {"text": book().text}, renamings: {"one": book(), "other": book()}, renamed: {"book": book(), "names": ("p", "q")}, twins: {"book": book()},
        melted: {"book": book()}, multiplied: {"one": book(), "other": small()}, joined: {"one": small(), "other": book()},
        Script: {"text": leaf().text}, exchanged: {"script": leaf(), "name": "r", "other": Script("script\nx = one 1 2")},
        net: {"script": leaf()}, by_ways: {"book": book(), "net": (2, (("k", 0, 1),), ((1, 0),)), "row": ("b",)}, script_of: {"net": (2, (("k", 0, 1),), ((1, 0),))},
        table: {"book": book(), "script": link()}, count: {"book": book(), "script": leaf().closed()}, line_tables: {"book": book(), "script": link()},
        Around: {"text": around().text}, filled: {"around": around(), "script": leaf()}, about: {"around": around()}, around_of: {"script": leaf()},
        paired: {"book": book(), "one": leaf(), "other": -leaf()},
        in_span: {"by": 0, "rows": matrix(), "row": worths()}, kernel: {"by": 5, "rows": matrix()}, determinant: {"by": 0, "rows": matrix()},
        shows_in_span: {"by": 0, "rows": matrix(), "row": worths(), "value": in_span(0, matrix(), worths())},
        shows_kernel: {"by": 5, "rows": matrix(), "value": ()},
        lots: {"books": (book(), book()), "k": 1}, shows_stable: {"books": (book(), book()), "k": 1, "value": both},
        same_lot: {"book": book(), "k": 2, "one": ("a",), "other": ("b",)}, lot_weights: {"book": book(), "k": 2, "m": 1}, orbits: {"book": book(), "m": 2},
        shows_same_lot: {"book": book(), "k": 2, "one": ("a",), "other": ("a",), "value": ("same", family)},
        made: {"book": book(), "k": 2, "m": 1, "worths": worths()}, pure: {"book": book(), "k": 2, "row": ("a", "b")}, spanning: {"book": book(), "k": 2, "m": 1},
        shows_made: {"book": book(), "k": 2, "m": 1, "worths": worths(), "value": made(book(), 2, 1, worths())},
        shows_pure: {"book": book(), "k": 2, "row": ("b",), "value": pure(book(), 2, ("b",))},
        shows_spanning: {"book": book(), "k": 2, "m": 1, "value": spanning(book(), 2, 1)},
        nothing: {"book": book(), "k": 2, "script": leaf()}, same_everywhere: {"book": book(), "k": 2, "one": leaf(), "other": -leaf()},
        matters: {"book": book(), "k": 2, "m": 1}, relations: {"book": book(), "k": 2, "scripts": (leaf(), leaf() + leaf())},
        shows_nothing: {"book": book(), "k": 2, "script": leaf(), "value": nothing(book(), 2, leaf())},
        shows_same_everywhere: {"book": book(), "k": 2, "one": leaf(), "other": leaf(), "value": ("same",)},
        shows_matters: {"book": book(), "k": 2, "m": 1, "value": matters(book(), 2, 1)},
        shows_relations: {"book": book(), "k": 2, "scripts": (leaf(), leaf()), "value": (((-1, 1), (1, 1)),)},
        alike: {"one": book(), "other": small(), "k": 1}, shows_alike: {"one": book(), "other": book(), "k": 1, "value": ("alike", both)},
        least_width: {"one": book(), "other": small()}, kinds_of: {"books": (book(), small(), book()), "k": 1}, parted: {"books": (book(), small()), "k": 1},
        shows_parted: {"books": (book(), book()), "k": 1, "value": ()},
        row_script: {"script": link(), "n": 5}, ring_script: {"script": link(), "n": 5}, in_row: {"book": book(), "script": link(), "n": 5},
        in_ring: {"book": book(), "script": link(), "n": 5}, recurrence: {"book": book(), "script": link()},
        rows_alike: {"one": book(), "script": link(), "other": small(), "its": link()},
        rings_alike: {"one": book(), "script": link(), "other": book(), "its": link()},
        Yard: {"book": book()}, journal: {"yard": yard()}, read_journal: {"text": JOURNAL}, Desk: {"text": JOURNAL},
    }


def methods():
    """Triples of what makes an object, the name of its method, and arguments by their names."""
    return [
        (book, "weight", {"mark": "b"}), (book, "worth", {"kind": "k", "one": "b", "other": "a"}), (leaf, "gates_of", {"name": "r"}), (leaf, "closed", {}),
        (leaf, "turned", {"one": 1, "other": 3}), (yard, "line", {"text": "s = p * q"}), (yard, "exchange", {"name": "q", "text": "one 1"}),
        (yard, "drop", {"name": "q"}), (yard, "gates_of", {"name": "r"}), (yard, "worths_of", {"name": "q"}), (yard, "closed", {"name": "q"}),
        (yard, "script", {"name": "q"}), (yard, "undo", {}), (yard, "copy", {}), (lambda: Desk(JOURNAL), "say", {"line": "worth q a"}),
        (lambda: Desk(JOURNAL), "say", {"line": "drop q"}), (yard, "drop", {"name": "r"}), (yard, "line", {"text": "q = one"}), (book, "weight", {"mark": "z"}),
    ]


def told(call, *arguments, **named):
    """What a call tells, or raises, with all that can be seen of it."""
    try:
        return looks(call(*arguments, **named))
    except GateError as error:
        return (type(error).__name__, looks(error.value))


def backward(named):
    return dict(list(named.items())[::-1])


class Calls(unittest.TestCase):
    def test_all_functions_of_the_interface_are_here(self):
        wanted = sorted(name for module in PARAMETERS.values() for name in module if "." not in name and name != "Table")
        self.assertEqual(sorted(call.__name__ for call in functions()), wanted)

    def test_functions_by_position_and_by_names_twice(self):
        again = functions()
        for call, named in functions().items():
            before = looks(list(named.values()))
            first = told(call, *named.values())
            self.assertFalse(first[0] == "TypeError")
            for _ in range(2):
                self.assertEqual(told(call, **backward(named)), first, call)
                self.assertEqual(told(call, **backward(again[call])), first, call)
                self.assertEqual(told(call, *again[call].values()), first, call)
            self.assertEqual(looks(list(named.values())), before, call)
            if call.__name__.startswith("shows_"):
                self.assertIs(call(*named.values()), True, call)

    def test_methods_by_position_and_by_names(self):
        for make, name, named in methods():
            one, other, third = make(), make(), make()
            first = told(getattr(one, name), *named.values())
            self.assertEqual(told(getattr(other, name), **backward(named)), first, name)
            self.assertEqual(told(getattr(third, name), *named.values()), first, name)
            # Whatever a deed did, it did the same.
            self.assertEqual(looks(one), looks(other), name)

    def test_methods_that_tell_change_nothing(self):
        for make, name, named in methods():
            one = make()
            if name in ("gates_of", "worths_of", "closed", "script", "copy", "weight", "worth", "turned"):
                before = journal(one) if isinstance(one, Yard) else looks(one)
                first = told(getattr(one, name), **named)
                self.assertEqual(told(getattr(one, name), **named), first)
                self.assertEqual(journal(one) if isinstance(one, Yard) else looks(one), before)

    def test_deeds_tell_none(self):
        one = yard()
        for call in (lambda: one.line("s = one"), lambda: one.exchange("s", "one"), lambda: one.drop("s"), one.undo, one.redo, lambda: one.tried(lambda held: held.keep())):
            self.assertIsNone(call())
        with one.trial() as held:
            self.assertIsNone(held.keep())

    def test_shows_functions_tell_bools_of_all_results(self):
        # What any function tells, handed to any function that shows.
        values = [call(*named.values()) for call, named in functions().items() if not call.__name__.startswith("shows_")]
        for call, named in functions().items():
            if call.__name__.startswith("shows_"):
                for value in values:
                    self.assertIn(call(**{**named, "value": value}), (True, False))
                    self.assertIs(type(call(**{**named, "value": value})), bool)

    def test_tables_are_equal_and_kept(self):
        one, other = table(book(), leaf()), table(book(), leaf())
        self.assertEqual(looks(one + other), looks(other + one))
        self.assertEqual(looks(one * other), looks(other * one))
        self.assertIsInstance(one, Table)


if __name__ == "__main__":
    unittest.main()
