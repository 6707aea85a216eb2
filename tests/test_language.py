"""The rules of the language, as far as a short look at the files can tell."""

import ast
import builtins
import pathlib
import re
import unittest

FOLDER = pathlib.Path(__file__).parent.parent / "opengates"
FILES = sorted(FOLDER.rglob("*.py"))
TREES = {path: ast.parse(path.read_text()) for path in FILES}

STATEMENTS = (ast.FunctionDef, ast.ClassDef, ast.Return, ast.Assign, ast.AugAssign, ast.For, ast.While, ast.If, ast.Raise,
              ast.Expr, ast.Pass, ast.Break, ast.Continue, ast.ImportFrom, ast.Try, ast.ExceptHandler, ast.With, ast.withitem)
PARTS = (ast.Module, ast.expr_context, ast.operator, ast.unaryop, ast.boolop, ast.cmpop, ast.arguments, ast.arg,
         ast.keyword, ast.comprehension)
EXPRESSIONS = (ast.Name, ast.Constant, ast.Tuple, ast.List, ast.Dict, ast.BinOp, ast.UnaryOp, ast.BoolOp, ast.Compare,
               ast.Call, ast.Attribute, ast.Subscript, ast.Slice, ast.IfExp, ast.ListComp, ast.DictComp, ast.JoinedStr,
               ast.FormattedValue, ast.Starred)
BUILTINS = set("""len range enumerate zip min max sum abs sorted reversed int str bool list tuple dict set isinstance ord
    repr any all divmod ValueError TypeError NotImplemented""".split())
LIBRARY = {"math": {"gcd", "lcm", "isqrt"}}
METHODS = set("""append clear copy count endswith extend find get index insert isalnum isalpha isdigit islower isspace
    isupper items join keys ljust lower lstrip partition pop remove replace reverse rfind rjust rpartition rsplit rstrip
    setdefault split splitlines startswith strip update upper values zfill bit_length removeprefix removesuffix""".split())
DOUBLE = set("""__init__ __eq__ __repr__ __str__ __len__ __contains__ __add__ __sub__ __mul__ __neg__ __getitem__
    __iter__ __enter__ __exit__""".split())
NOWHERE = set("""register mro elements open input law version_info with_traceback add_note""".split())
NO_NAMES = set("""attrgetter breakpoint builtins compile copyright credits delattr dir eval exec exit gc getattr globals
    hasattr help id importlib license locals methodcaller os quit setattr super type vars sys""".split())
NO_WORDS = set("""type typing typing_extensions enum Enum IntEnum StrEnum Flag IntFlag Generic Protocol ABC ABCMeta
    namedtuple NamedTuple TypedDict TYPE_CHECKING abstractmethod dataclass overload contextmanager""".split())
OPERATORS = {"__add__", "__sub__", "__mul__", "__neg__", "__contains__", "__eq__", "__len__", "__getitem__"}
# The document calls parameters of this file as it calls a function of it.
SAME_NAMES = {"nets.py": {"net"}}


def nodes(kind):
    """Pairs of a file's name and a node of this kind in it."""
    return [(path.name, node) for path, tree in TREES.items() for node in ast.walk(tree) if isinstance(node, kind)]


def own_methods():
    return {part.name for _, node in nodes(ast.ClassDef) for part in node.body if isinstance(part, ast.FunctionDef)}


def bound_names(tree):
    """All names that a file binds: parameters, variables, functions, classes, imports."""
    found = set()
    for node in ast.walk(tree):
        if isinstance(node, ast.Name) and not isinstance(node.ctx, ast.Load):
            found.add(node.id)
        elif isinstance(node, (ast.FunctionDef, ast.ClassDef)):
            found.add(node.name)
        elif isinstance(node, ast.arg):
            found.add(node.arg)
        elif isinstance(node, ast.alias):
            found.add(node.asname or node.name)
        elif isinstance(node, ast.ExceptHandler) and node.name is not None:
            found.add(node.name)
    return found


def docstrings(tree):
    found = []
    for node in ast.walk(tree):
        if isinstance(node, (ast.Module, ast.FunctionDef, ast.ClassDef)) and ast.get_docstring(node) is not None:
            found.append(node.body[0].value)
    return found


class Files(unittest.TestCase):
    def test_there_are_only_python_files_with_plain_names(self):
        for path in FOLDER.rglob("*"):
            if "__pycache__" not in path.parts:
                self.assertRegex(path.name, r"\A[a-z_][a-z0-9_]*\.py\Z")

    def test_sizes_and_characters(self):
        for path in FILES:
            text = path.read_text()
            self.assertLessEqual(text.count("\n"), 399, path)
            self.assertLessEqual(max(len(line) for line in text.split("\n")), 120, path)
            self.assertRegex(text, r"\A[ -~\n]*\Z")
            self.assertEqual(re.findall(r"[ ]+\n", text), [], path)
        for name, node in nodes(ast.FunctionDef):
            self.assertLessEqual(node.end_lineno - node.lineno + 1, 40, (name, node.name))

    def test_words_that_do_not_occur(self):
        for path, tree in TREES.items():
            told = docstrings(tree)
            words = set()
            for node in ast.walk(tree):
                if isinstance(node, ast.Constant) and isinstance(node.value, str) and node not in told:
                    words |= set(re.findall(r"\w+", node.value))
                    self.assertNotIn("%", node.value, path)
            words |= bound_names(tree)
            self.assertEqual(words & NO_WORDS, set(), path)

    def test_only_the_plain_parts_of_the_language(self):
        for name, node in nodes(ast.AST):
            if not isinstance(node, PARTS + STATEMENTS + EXPRESSIONS + (ast.alias,)):
                self.fail(f"{name}: {ast.dump(node)[:100]}")
            self.assertNotIsInstance(node, (ast.Div, ast.MatMult), name)
            if isinstance(node, ast.Constant):
                self.assertIn(type(node.value), (int, str, bool, type(None)), name)
            if isinstance(node, (ast.FunctionDef, ast.ClassDef)):
                self.assertEqual(node.decorator_list, [])
            if isinstance(node, ast.Compare):
                for sign, right in zip(node.ops, node.comparators):
                    if isinstance(sign, (ast.Is, ast.IsNot)):
                        self.assertIsInstance(right, ast.Constant)


class Imports(unittest.TestCase):
    def test_imports_name_the_very_file_at_the_top(self):
        for path, tree in TREES.items():
            seen_other = False
            for node in tree.body:
                if not isinstance(node, ast.ImportFrom):
                    seen_other = seen_other or not (isinstance(node, ast.Expr) and node is tree.body[0])
                    continue
                self.assertFalse(seen_other, path)
                names = {alias.name for alias in node.names}
                self.assertEqual(node.level, 0)
                self.assertTrue(all(alias.asname is None for alias in node.names))
                if node.module in LIBRARY:
                    self.assertLessEqual(names, LIBRARY[node.module])
                    continue
                source = FOLDER.parent / (node.module.replace(".", "/") + ".py")
                defined = {part.name for part in TREES[source].body if isinstance(part, (ast.FunctionDef, ast.ClassDef))}
                defined |= {part.targets[0].id for part in TREES[source].body if isinstance(part, ast.Assign)}
                self.assertLessEqual(names, defined, path)

    def test_no_two_files_import_from_each_other(self):
        leads = {path.stem: {node.module.split(".")[-1] for node in tree.body
                             if isinstance(node, ast.ImportFrom) and node.module not in LIBRARY}
                 for path, tree in TREES.items()}
        while leads:
            free = [name for name, others in leads.items() if not others & set(leads)]
            self.assertTrue(free, leads)
            leads = {name: others for name, others in leads.items() if name not in free}

    def test_module_level_holds_only_definitions_and_plain_values(self):
        for path, tree in TREES.items():
            names = []
            for at, node in enumerate(tree.body):
                if isinstance(node, ast.Expr):
                    self.assertTrue(at == 0 and isinstance(node.value, ast.Constant), path)
                elif isinstance(node, ast.Assign):
                    self.assertEqual(len(node.targets), 1)
                    names.append(node.targets[0].id)
                    self.assertEqual([part for part in ast.walk(node) if isinstance(part, ast.Call)], [])
                elif isinstance(node, ast.ImportFrom):
                    names += [alias.name for alias in node.names]
                else:
                    self.assertIsInstance(node, (ast.FunctionDef, ast.ClassDef))
                    names.append(node.name)
            self.assertEqual(len(names), len(set(names)), path)


class NamesAndCalls(unittest.TestCase):
    def test_names(self):
        for path, tree in TREES.items():
            bound = bound_names(tree)
            self.assertEqual(bound & (set(dir(builtins)) - {"_"}), set(), path)
            self.assertEqual(bound & (NOWHERE | NO_NAMES), set(), path)
            for name in bound - DOUBLE:
                self.assertRegex(name, r"\A(_|_?[A-Za-z][A-Za-z0-9_]*)\Z")
                self.assertIsNone(re.match(r"_(wall|pe_|dcw_|enum_|cm_|twin_re_|lay_|law_|stub_|sre|WallAttr)", name))
            used = {node.id for node in ast.walk(tree) if isinstance(node, ast.Name) and isinstance(node.ctx, ast.Load)}
            self.assertLessEqual(used - bound, BUILTINS, path)

    def test_no_variable_has_the_name_of_a_class_function_or_import_of_its_file(self):
        for path, tree in TREES.items():
            taken = {node.name for node in tree.body if isinstance(node, (ast.FunctionDef, ast.ClassDef))}
            taken |= {alias.name for node in tree.body if isinstance(node, ast.ImportFrom) for alias in node.names}
            taken -= SAME_NAMES.get(path.name, set())
            for node in ast.walk(tree):
                if isinstance(node, ast.arg):
                    self.assertNotIn(node.arg, taken, path)
                if isinstance(node, ast.Name) and not isinstance(node.ctx, ast.Load):
                    self.assertNotIn(node.id, taken, path)

    def test_methods_that_are_called(self):
        for name, node in nodes(ast.Call):
            if isinstance(node.func, ast.Attribute):
                self.assertIn(node.func.attr, METHODS | own_methods(), name)
                self.assertEqual([one for one in node.keywords if node.func.attr in METHODS], [], name)
            else:
                self.assertIsInstance(node.func, ast.Name, name)

    def test_attributes(self):
        barred = {name for kind in (str, int, list, dict, set, bytes) for name in dir(kind)}
        for name, node in nodes(ast.Attribute):
            if isinstance(node.ctx, ast.Store):
                self.assertNotIn(node.attr, barred | NOWHERE | own_methods(), name)
                self.assertIsInstance(node.value, ast.Name)
        self.assertEqual(own_methods() & barred - DOUBLE - {"copy"}, set())

    def test_sets_are_only_sorted_or_measured(self):
        for path, tree in TREES.items():
            inside = {id(node.args[0]) for node in ast.walk(tree) if isinstance(node, ast.Call)
                      and isinstance(node.func, ast.Name) and node.func.id in ("sorted", "len") and node.args}
            for node in ast.walk(tree):
                if isinstance(node, ast.Call) and isinstance(node.func, ast.Name) and node.func.id == "set":
                    self.assertIn(id(node), inside, path)


class Classes(unittest.TestCase):
    def test_double_underscore_methods(self):
        for name, node in nodes(ast.FunctionDef):
            if node.name.startswith("__"):
                self.assertIn(node.name, DOUBLE, name)
            if node.name in DOUBLE - {"__init__", "__iter__", "__exit__"}:
                self.assertIsInstance(node.body[-1], ast.Return, name)

    def test_who_is_asked_by_an_index_is_not_iterated_over(self):
        for name, node in nodes(ast.ClassDef):
            methods = {part.name: part for part in node.body if isinstance(part, ast.FunctionDef)}
            self.assertEqual("__getitem__" in methods, "__iter__" in methods, name)
            if "__iter__" in methods:
                self.assertEqual(ast.unparse(methods["__iter__"].body[-1])[:17], "raise TypeError('", name)
                self.assertEqual(len(methods["__iter__"].body), 1)

    def test_imports_are_used(self):
        for path, tree in TREES.items():
            names = {alias.name for node in tree.body if isinstance(node, ast.ImportFrom) for alias in node.names}
            used = {node.id for node in ast.walk(tree) if isinstance(node, ast.Name)}
            self.assertEqual(names - used, set(), path)

    def test_what_builtins_are_passed(self):
        for name, node in nodes(ast.Call):
            called = node.func.id if isinstance(node.func, ast.Name) else None
            if called == "reversed":
                self.assertIn(getattr(getattr(node.args[0], "func", None), "id", None), ("list", "tuple", "sorted", "range"), name)
            if called in ("zip", "enumerate", "range"):
                parents = [part for _, part in nodes((ast.For, ast.comprehension)) if part.iter is node]
                # A range may be kept, by one name.
                parents += [part for _, part in nodes(ast.Assign) if part.value is node and called == "range"
                            and isinstance(part.targets[0], ast.Name)]
                outer = [part for _, part in nodes(ast.Call) if node in part.args and isinstance(part.func, ast.Name)
                         and part.func.id in ("tuple", "list", "sorted", "zip", "enumerate", "sum", "any", "all", "dict")
                         or node in part.args and called == "range" and getattr(part.func, "id", None) == "reversed"]
                self.assertTrue(parents or outer, (name, node.lineno))

    def test_exponents_are_literals(self):
        for name, node in nodes(ast.BinOp):
            if isinstance(node.op, ast.Pow):
                self.assertIsInstance(node.right, ast.Constant, name)
                self.assertTrue(0 <= node.right.value <= 64, name)

    def test_what_operators_run_changes_only_what_it_made(self):
        functions = {}
        for _, node in nodes(ast.FunctionDef):
            functions.setdefault(node.name, []).append(node)
        for _, node in nodes(ast.ClassDef):
            # A class that is called runs its own __init__; that may change its own object alone.
            functions[node.name] = [part for part in node.body if getattr(part, "name", None) == "__init__"]
        classes = {node.name for _, node in nodes(ast.ClassDef)}
        ready = [name for name in OPERATORS if name in functions]
        seen = set()
        while ready:
            name = ready.pop()
            if name in seen or name not in functions:
                continue
            seen.add(name)
            called = [node.func for own in functions[name] for node in ast.walk(own) if isinstance(node, ast.Call)]
            ready += [part.id if isinstance(part, ast.Name) else part.attr for part in called]
        self.assertLessEqual({"Book", "Script", "Table"} & seen, seen)
        for name, node in [(name, node) for name in seen - classes for node in functions[name]]:
            fresh = {part.targets[0].id for part in ast.walk(node) if isinstance(part, ast.Assign)
                     and isinstance(part.targets[0], ast.Name)
                     and isinstance(part.value, (ast.List, ast.Dict, ast.ListComp, ast.DictComp))}
            for part in ast.walk(node):
                if isinstance(part, (ast.Attribute, ast.Subscript)) and isinstance(part.ctx, ast.Store):
                    self.assertIn(getattr(part.value, "id", None), fresh, name)
                if isinstance(part, ast.Attribute) and part.attr in ("append", "extend", "update", "setdefault", "pop"):
                    self.assertIn(getattr(part.value, "id", None), fresh, name)
                if isinstance(part, ast.AugAssign):
                    self.assertIsInstance(part.value, ast.Constant, name)

    def test_errors_that_are_caught_are_own_ones(self):
        own = {node.name for node in TREES[FOLDER / "errors.py"].body if isinstance(node, ast.ClassDef)}
        for name, node in nodes(ast.ExceptHandler):
            caught = node.type.elts if isinstance(node.type, ast.Tuple) else [node.type]
            self.assertLessEqual({part.id for part in caught}, own, name)
        for name, node in nodes(ast.Raise):
            self.assertLessEqual({node.exc.func.id}, own | {"TypeError"}, name)
        self.assertEqual([node for _, node in nodes(ast.Try) if node.finalbody], [])

    def test_what_leaves_a_block_only_assigns(self):
        for name, node in nodes(ast.FunctionDef):
            if node.name == "__exit__":
                for part in ast.walk(node):
                    self.assertNotIsInstance(part, (ast.Call, ast.BinOp, ast.For, ast.While, ast.Raise, ast.Subscript), name)
                    if isinstance(part, ast.Compare):
                        self.assertTrue(all(isinstance(sign, (ast.Is, ast.IsNot)) for sign in part.ops))


if __name__ == "__main__":
    unittest.main()
