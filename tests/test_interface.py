"""The interface: where names are defined, and how parameters are called."""

import ast
import inspect
import pathlib
import unittest

from opengates import books, scripts
from opengates.books import Book
from opengates.scripts import Script

FOLDER = pathlib.Path(__file__).parent.parent / "opengates"
PARAMETERS = {
    "books": {
        "Book": ["text"], "Book.weight": ["self", "mark"], "Book.worth": ["self", "kind", "one", "other"],
        "Book.__len__": ["self"], "Book.__contains__": None, "Book.__eq__": None,
        "renamings": ["one", "other"], "renamed": ["book", "names"], "twins": ["book"],
        "melted": ["book"], "multiplied": ["one", "other"], "joined": ["one", "other"],
    },
    "scripts": {
        "Script": ["text"], "Script.gates_of": ["self", "name"], "Script.closed": ["self"],
        "Script.turned": ["self", "one", "other"], "Script.__len__": ["self"],
        "Script.__contains__": None, "Script.__eq__": None, "Script.__mul__": None,
        "Script.__add__": None, "Script.__sub__": None, "Script.__neg__": ["self"],
        "exchanged": ["script", "name", "other"],
    },
}


def defined(name):
    """The names that a file defines by def and class, those of methods behind their class."""
    found = []
    for node in ast.parse((FOLDER / f"{name}.py").read_text()).body:
        if isinstance(node, (ast.FunctionDef, ast.ClassDef)):
            found.append(node.name)
        if isinstance(node, ast.ClassDef):
            found.extend(f"{node.name}.{part.name}" for part in node.body if isinstance(part, ast.FunctionDef))
    return found


class Interface(unittest.TestCase):
    def test_names_are_defined_in_their_files(self):
        for name, wanted in PARAMETERS.items():
            self.assertEqual([one for one in wanted if one not in defined(name)], [])

    def test_parameters_are_called_as_in_the_sections(self):
        modules = {"books": books, "scripts": scripts}
        for module, wanted in PARAMETERS.items():
            for name, parameters in wanted.items():
                value = modules[module]
                for part in name.split("."):
                    value = getattr(value, part)
                if parameters is not None:
                    self.assertEqual(list(inspect.signature(value).parameters), parameters, name)

    def test_arguments_by_name(self):
        book = Book(text="book 0\nmark a 1\nmark b 2\nkind k 1 2 3 4")
        self.assertEqual([book.weight(mark="b"), book.worth(other="b", one="a", kind="k")], [2, 2])
        self.assertEqual(books.renamed(names=("c", "d"), book=book).marks, ("c", "d"))
        self.assertEqual(books.renamings(other=book, one=book), (("a", "b"),))
        self.assertEqual(books.twins(book=book), (("a",), ("b",)))
        self.assertEqual(books.melted(book=book), book)
        one = Book("book 0\nmark z 1\nkind k 1")
        self.assertEqual(books.multiplied(other=one, one=book).marks, ("a", "b"))
        self.assertEqual(books.joined(other=one, one=book).marks, ("a", "b", "c"))
        script = Script(text="script\na = one 1 2")
        self.assertEqual([script.gates_of(name="a"), script.turned(other=3, one=1).gates], [(1, 2), (2, 3)])
        self.assertEqual(scripts.exchanged(other=script, name="a", script=script).lines[0][0], "x1")

    def test_attributes_are_there_when_the_object_is(self):
        book = Book("book 0\nmark a 1\nkind k 1")
        script = Script("script\na = one 1")
        self.assertLessEqual({"text", "by", "marks", "kinds"}, set(vars(book)))
        self.assertLessEqual({"text", "gates", "width", "lines", "is_plain"}, set(vars(script)))


if __name__ == "__main__":
    unittest.main()
