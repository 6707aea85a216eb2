"""The interface: where names are defined, and how parameters are called."""

import ast
import inspect
import pathlib
import unittest

from opengates import alike, arounds, books, desk, journals, lengths, lots, made, nets, nothing, scripts, spans, tables, yard
from opengates.arounds import Around
from opengates.books import Book
from opengates.scripts import Script

FOLDER = pathlib.Path(__file__).parent.parent / "opengates"
PARAMETERS = {
    "books": {
        "Book": ["text"], "Book.weight": ["self", "mark"], "Book.worth": ["self", "kind", "one", "other"],
        "Book.__len__": ["self"], "Book.__contains__": None, "Book.__eq__": None,
        "renamings": ["one", "other"], "renamed": ["book", "names"], "twins": ["book"],
        "melted": ["book"], "multiplied": ["one", "other"], "joined": ["one", "other"],
    },
    "scripts": {
        "Script": ["text"], "Script.gates_of": ["self", "name"], "Script.closed": ["self"],
        "Script.turned": ["self", "one", "other"], "Script.__len__": ["self"],
        "Script.__contains__": None, "Script.__eq__": None, "Script.__mul__": None,
        "Script.__add__": None, "Script.__sub__": None, "Script.__neg__": ["self"],
        "exchanged": ["script", "name", "other"],
    },
    "nets": {"net": ["script"], "by_ways": ["book", "net", "row"], "script_of": ["net"]},
    "tables": {
        "Table": None, "Table.__getitem__": None, "Table.__add__": None, "Table.__mul__": None, "Table.__eq__": None,
        "table": ["book", "script"], "count": ["book", "script"], "line_tables": ["book", "script"],
    },
    "arounds": {
        "Around": ["text"], "Around.__eq__": None, "filled": ["around", "script"], "about": ["around"],
        "around_of": ["script"], "paired": ["book", "one", "other"],
    },
    "spans": {
        "in_span": ["by", "rows", "row"], "shows_in_span": ["by", "rows", "row", "value"], "kernel": ["by", "rows"],
        "shows_kernel": ["by", "rows", "value"], "determinant": ["by", "rows"],
    },
    "lots": {
        "lots": ["books", "k"], "shows_stable": ["books", "k", "value"], "same_lot": ["book", "k", "one", "other"],
        "shows_same_lot": ["book", "k", "one", "other", "value"], "lot_weights": ["book", "k", "m"], "orbits": ["book", "m"],
    },
    "made": {
        "made": ["book", "k", "m", "worths"], "shows_made": ["book", "k", "m", "worths", "value"], "pure": ["book", "k", "row"],
        "shows_pure": ["book", "k", "row", "value"], "spanning": ["book", "k", "m"], "shows_spanning": ["book", "k", "m", "value"],
    },
    "nothing": {
        "nothing": ["book", "k", "script"], "shows_nothing": ["book", "k", "script", "value"],
        "same_everywhere": ["book", "k", "one", "other"], "shows_same_everywhere": ["book", "k", "one", "other", "value"],
        "matters": ["book", "k", "m"], "shows_matters": ["book", "k", "m", "value"],
        "relations": ["book", "k", "scripts"], "shows_relations": ["book", "k", "scripts", "value"],
    },
    "alike": {
        "alike": ["one", "other", "k"], "shows_alike": ["one", "other", "k", "value"], "least_width": ["one", "other"],
        "kinds_of": ["books", "k"], "parted": ["books", "k"], "shows_parted": ["books", "k", "value"],
    },
    "lengths": {
        "row_script": ["script", "n"], "ring_script": ["script", "n"], "in_row": ["book", "script", "n"],
        "in_ring": ["book", "script", "n"], "recurrence": ["book", "script"],
        "rows_alike": ["one", "script", "other", "its"], "rings_alike": ["one", "script", "other", "its"],
    },
    "yard": {
        "Yard": ["book"], "Yard.line": ["self", "text"], "Yard.exchange": ["self", "name", "text"], "Yard.drop": ["self", "name"],
        "Yard.gates_of": ["self", "name"], "Yard.worths_of": ["self", "name"], "Yard.closed": ["self", "name"],
        "Yard.script": ["self", "name"], "Yard.undo": ["self"], "Yard.redo": ["self"], "Yard.trial": ["self"],
        "Yard.keep": ["self"], "Yard.tried": ["self", "look", "keep"], "Yard.copy": ["self"],
        "Yard.__contains__": None, "Yard.__eq__": None,
    },
    "journals": {"journal": ["yard"], "read_journal": ["text"]},
    "desk": {"Desk": ["text"], "Desk.say": ["self", "line"]},
}
MODULES = {"books": books, "scripts": scripts, "nets": nets, "tables": tables, "arounds": arounds, "spans": spans, "lots": lots,
           "made": made, "nothing": nothing, "alike": alike, "lengths": lengths, "yard": yard, "journals": journals, "desk": desk}


def defined(name):
    """The names that a file defines by def and class, those of methods behind their class."""
    found = []
    for node in ast.parse((FOLDER / f"{name}.py").read_text()).body:
        if isinstance(node, (ast.FunctionDef, ast.ClassDef)):
            found.append(node.name)
        if isinstance(node, ast.ClassDef):
            found.extend(f"{node.name}.{part.name}" for part in node.body if isinstance(part, ast.FunctionDef))
    return found


class Interface(unittest.TestCase):
    def test_names_are_defined_in_their_files(self):
        for name, wanted in PARAMETERS.items():
            self.assertEqual([one for one in wanted if one not in defined(name)], [])

    def test_parameters_are_called_as_in_the_sections(self):
        for module, wanted in PARAMETERS.items():
            for name, parameters in wanted.items():
                value = MODULES[module]
                for part in name.split("."):
                    value = getattr(value, part)
                if parameters is not None:
                    self.assertEqual(list(inspect.signature(value).parameters), parameters, name)

    def test_arguments_by_name(self):
        book = Book(text="book 0\nmark a 1\nmark b 2\nkind k 1 2 3 4")
        self.assertEqual([book.weight(mark="b"), book.worth(other="b", one="a", kind="k")], [2, 2])
        self.assertEqual(books.renamed(names=("c", "d"), book=book).marks, ("c", "d"))
        self.assertEqual(books.renamings(other=book, one=book), (("a", "b"),))
        self.assertEqual(books.twins(book=book), (("a",), ("b",)))
        self.assertEqual(books.melted(book=book), book)
        one = Book("book 0\nmark z 1\nkind k 1")
        self.assertEqual(books.multiplied(other=one, one=book).marks, ("a", "b"))
        self.assertEqual(books.joined(other=one, one=book).marks, ("a", "b", "c"))
        script = Script(text="script\na = one 1 2")
        self.assertEqual([script.gates_of(name="a"), script.turned(other=3, one=1).gates], [(1, 2), (2, 3)])
        self.assertEqual(scripts.exchanged(other=script, name="a", script=script).lines[0][0], "x1")

    def test_arguments_of_nets_and_tables_by_name(self):
        book = Book("book 0\nmark a 1\nmark b 2\nkind k 1 2 3 4")
        script = Script("script\na = road k 1 2")
        found = nets.net(script=script)
        self.assertEqual(nets.by_ways(row=("a", "b"), net=found, book=book), (2, 1))
        self.assertEqual(nets.script_of(net=found).gates, (1, 2))
        self.assertEqual(tables.table(script=script, book=book).worths, ((1, 1), (2, 1), (3, 1), (4, 1)))
        self.assertEqual(tables.line_tables(script=script, book=book), (("a", ((1, 1), (2, 1), (3, 1), (4, 1))),))
        self.assertEqual(tables.count(script=script.closed(), book=book), (1 + 4 + 6 + 16, 1))

    def test_arguments_of_arounds_and_spans_by_name(self):
        book = Book("book 0\nmark a 1\nmark b 2\nkind k 1 2 3 4")
        script = Script("script\na = one 1")
        around = Around(text="around h 1\na = close 1 h")
        self.assertEqual(len(arounds.filled(script=script, around=around)), 2)
        self.assertEqual(arounds.about(around=around).gates, (1,))
        self.assertEqual(arounds.around_of(script=script).gates, (1,))
        self.assertEqual(arounds.paired(other=script, one=-script, book=book), (-3, 1))
        rows, row = (((2, 1),),), ((1, 1),)
        self.assertEqual(spans.in_span(row=row, rows=rows, by=0), ("sum", ((1, 2),)))
        self.assertTrue(spans.shows_in_span(value=("sum", ((1, 2),)), row=row, rows=rows, by=0))
        self.assertEqual(spans.kernel(rows=rows, by=0), ())
        self.assertTrue(spans.shows_kernel(value=(), rows=rows, by=0))
        self.assertEqual(spans.determinant(rows=rows, by=0), (2, 1))

    def test_attributes_are_there_when_the_object_is(self):
        book = Book("book 0\nmark a 1\nkind k 1")
        script = Script("script\na = one 1")
        self.assertLessEqual({"text", "by", "marks", "kinds"}, set(vars(book)))
        self.assertLessEqual({"text", "gates", "width", "lines", "is_plain"}, set(vars(script)))
        self.assertLessEqual({"book", "gates", "rows", "worths"}, set(vars(tables.table(book, script))))
        self.assertLessEqual({"text", "hole", "gates", "width", "lines"}, set(vars(arounds.around_of(script))))
        self.assertLessEqual({"book", "names", "text", "done"}, set(vars(yard.Yard(book))))
        self.assertLessEqual({"yard"}, set(vars(desk.Desk(book.text + "\nyard"))))

    def test_each_name_of_the_interface_is_asked_here(self):
        document = FOLDER.parent.parent / "shared" / "DOC.md"
        if not document.exists():
            self.skipTest("the document is not beside this checkout")
        attributes = {"text", "by", "marks", "kinds", "gates", "width", "lines", "is_plain", "book", "rows", "worths", "hole", "names", "done", "yard"}
        for line in document.read_text().split("\n"):
            if line.startswith("- opengates/") and "errors.py" not in line:
                module, _, rest = line.removeprefix("- opengates/").rstrip(".").partition(".py: ")
                for part in rest.replace("),", ");").replace(", ", ";").split(";"):
                    words = part.replace("(", " ").replace(")", " ").split()
                    for word in words:
                        told = [name.split(".")[-1] for name in PARAMETERS[module]]
                        self.assertIn(word, set(told) | attributes, module)


if __name__ == "__main__":
    unittest.main()
