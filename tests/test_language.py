"""The files of the package keep to the language that the project asks for, as far as is seen here."""

import ast
import builtins
import os
import re
import unittest

TOP = os.path.join(os.path.dirname(os.path.dirname(os.path.abspath(__file__))), "forkcells")
DOUBLE = ("__init__", "__eq__", "__repr__", "__str__", "__len__", "__bool__", "__contains__", "__call__",
          "__iter__", "__getitem__")
LIBRARY = ("heapq", "math", "itertools", "collections")
WORDS = ("typing", "typing_extensions", "enum", "Enum", "IntEnum", "StrEnum", "Flag", "IntFlag", "Generic",
         "Protocol", "ABC", "ABCMeta", "namedtuple", "NamedTuple", "TypedDict", "abstractmethod", "dataclass",
         "overload", "contextmanager", "_wall", "_WallAttr", "metaclass")
BARRED = ("register", "mro", "elements", "open", "input", "law", "version_info", "with_traceback", "add_note",
          "_cold", "_tuplegetter", "_outside", "_record", "_written_out", "_member_names")
METHODS = ("append clear copy count endswith extend find get index insert isalnum isalpha isdigit islower isspace "
           "isupper items join keys ljust lower lstrip partition pop remove replace reverse rfind rjust rpartition "
           "rsplit rstrip setdefault split splitlines startswith strip update upper values zfill bit_length add "
           "discard").split()

WALKERS = ("enumerate", "zip", "reversed", "map", "chain", "accumulate", "pairwise", "islice")
VIEWS = ("items", "keys", "values")
CHANGERS = ("append", "clear", "extend", "insert", "pop", "remove", "reverse", "setdefault", "update", "sort", "add",
            "discard", "appendleft", "popleft", "extendleft", "rotate")


def files():
    for folder, _, names in sorted(os.walk(TOP)):
        for name in sorted(names):
            if not name.endswith(".pyc"):
                yield os.path.join(folder, name)


def read(path):
    with open(path, encoding="utf-8") as file:
        return file.read()


def trees():
    for path in files():
        yield path, ast.parse(read(path))


def root_of(node):
    """The name with which an attribute or an item of something begins, or None."""
    while isinstance(node, (ast.Attribute, ast.Subscript)):
        node = node.value
    return node.id if isinstance(node, ast.Name) else None


def walked_by(node):
    """What a loop over this expression walks itself; a copy by list(..) or a slice is something else."""
    if isinstance(node, ast.IfExp):
        return walked_by(node.body) + walked_by(node.orelse)
    if isinstance(node, ast.BoolOp):
        return [part for value in node.values for part in walked_by(value)]
    if isinstance(node, ast.Call) and isinstance(node.func, ast.Name) and node.func.id in WALKERS:
        return [part for value in node.args for part in walked_by(value)]
    if isinstance(node, ast.Call) and isinstance(node.func, ast.Attribute) and node.func.attr in VIEWS:
        return walked_by(node.func.value)
    if isinstance(node, ast.Subscript) and isinstance(node.slice, ast.Slice):
        return []
    return [node] if isinstance(node, (ast.Name, ast.Attribute, ast.Subscript)) else []


def changed_in(rows):
    """What these rows change: the objects of methods that modify, and of items and attributes that are assigned."""
    for node in [part for row in rows for part in ast.walk(row)]:
        if isinstance(node, ast.Call) and isinstance(node.func, ast.Attribute) and node.func.attr in CHANGERS:
            yield node.func.value
        elif isinstance(node, (ast.Attribute, ast.Subscript)) and not isinstance(node.ctx, ast.Load):
            yield node.value
        elif isinstance(node, ast.AugAssign):
            yield node.target


def sources_in(function):
    """A dict from variables to the names out of whose items or fields they were taken."""
    found = {}
    for node in ast.walk(function):
        if isinstance(node, ast.Assign) and isinstance(node.targets[0], ast.Name):
            if isinstance(node.value, (ast.Subscript, ast.Attribute)):
                found.setdefault(node.targets[0].id, set()).add(root_of(node.value))
    return found


def bound_names(tree):
    """Names of functions, classes, parameters and variables."""
    for node in ast.walk(tree):
        if isinstance(node, ast.arg):
            yield node.arg
        elif isinstance(node, ast.Name) and isinstance(node.ctx, ast.Store):
            yield node.id
        elif isinstance(node, (ast.FunctionDef, ast.ClassDef)):
            yield node.name


class Language(unittest.TestCase):
    def test_files(self):
        for path in files():
            self.assertRegex(os.path.basename(path), r"^[a-z0-9_]+\.py$")
            self.assertTrue(os.path.exists(os.path.join(os.path.dirname(path), "__init__.py")), path)
            self.assertFalse(os.path.exists(path[:-3]), path)
        self.assertLessEqual(len(list(files())), 100)

    def test_characters_and_sizes(self):
        for path in files():
            text = read(path)
            self.assertRegex(text, r"\A[ -~\n]*\Z", path)
            lines = text.split("\n")
            self.assertLessEqual(len(lines), 399, path)
            self.assertLessEqual(max([len(line) for line in lines]), 120, path)

    def test_functions_have_at_most_forty_lines(self):
        for path, tree in trees():
            for node in ast.walk(tree):
                if isinstance(node, ast.FunctionDef):
                    self.assertLessEqual(node.end_lineno - node.lineno + 1, 40, (path, node.name))

    def test_imports(self):
        for path, tree in trees():
            for node in ast.walk(tree):
                self.assertNotIsInstance(node, ast.Import, path)
                if isinstance(node, ast.ImportFrom):
                    self.assertIn(node, tree.body)
                    self.assertEqual(node.level, 0)
                    if node.module in LIBRARY:
                        continue
                    self.assertTrue(node.module.startswith("forkcells."), path)
                    other = ast.parse(read(os.path.join(os.path.dirname(TOP), *node.module.split(".")) + ".py"))
                    defined = set()
                    for part in other.body:
                        if isinstance(part, (ast.FunctionDef, ast.ClassDef)):
                            defined.add(part.name)
                        elif isinstance(part, ast.Assign):
                            defined.add(part.targets[0].id)
                    for name in node.names:
                        self.assertIsNone(name.asname)
                        self.assertIn(name.name, defined, path)

    def test_imports_are_used(self):
        for path, tree in trees():
            used = {node.id for node in ast.walk(tree) if isinstance(node, ast.Name)}
            for node in tree.body:
                if isinstance(node, ast.ImportFrom):
                    self.assertEqual([name.name for name in node.names if name.name not in used], [], path)

    def test_no_circles_of_imports(self):
        leads = {}
        for path, tree in trees():
            name = os.path.relpath(path, os.path.dirname(TOP))[:-3].replace(os.sep, ".")
            leads[name] = [node.module for node in tree.body if isinstance(node, ast.ImportFrom)]

        def visit(name, way):
            self.assertNotIn(name, way)
            for other in leads.get(name, []):
                visit(other, way + [name])
        for name in leads:
            visit(name, [])

    def test_module_level(self):
        allowed = (ast.ImportFrom, ast.FunctionDef, ast.ClassDef, ast.Assign)
        for path, tree in trees():
            for k, node in enumerate(tree.body):
                docstring = k == 0 and isinstance(node, ast.Expr) and isinstance(node.value, ast.Constant)
                self.assertTrue(docstring or isinstance(node, allowed), (path, node.lineno))

    def test_nothing_barred_stands_there(self):
        barred = (ast.AsyncFunctionDef, ast.Global, ast.Await, ast.Div, ast.MatMult, ast.GeneratorExp)
        for path, tree in trees():
            for node in ast.walk(tree):
                self.assertNotIsInstance(node, barred, path)
                if isinstance(node, ast.Constant):
                    self.assertNotIsInstance(node.value, (float, complex), path)

    def test_decorators(self):
        for path, tree in trees():
            for node in ast.walk(tree):
                if isinstance(node, ast.ClassDef):
                    self.assertEqual(node.decorator_list, [], path)
                if isinstance(node, ast.FunctionDef):
                    names = [part.id for part in node.decorator_list if isinstance(part, ast.Name)]
                    self.assertEqual(len(names), len(node.decorator_list))
                    self.assertTrue(set(names) <= {"property"}, path)

    def test_properties_and_methods_have_different_names(self):
        properties, methods = set(), set()
        for _, tree in trees():
            for node in ast.walk(tree):
                if isinstance(node, ast.ClassDef):
                    for part in node.body:
                        if isinstance(part, ast.FunctionDef):
                            (properties if part.decorator_list else methods).add(part.name)
        self.assertEqual(properties & methods, set())

    def test_attributes_have_names_of_their_own(self):
        """No attribute that is assigned is a property or a method anywhere."""
        taken, assigned = set(), {}
        for path, tree in trees():
            for node in ast.walk(tree):
                if isinstance(node, ast.ClassDef):
                    taken.update([part.name for part in node.body if isinstance(part, ast.FunctionDef)])
                elif isinstance(node, ast.Attribute) and isinstance(node.ctx, ast.Store):
                    assigned[node.attr] = path
        self.assertEqual({name: assigned[name] for name in assigned if name in taken}, {})

    def test_what_is_read_is_assigned_or_defined(self):
        known, read = set(METHODS), {}
        for path, tree in trees():
            for node in ast.walk(tree):
                if isinstance(node, ast.ClassDef):
                    known.update([part.name for part in node.body if isinstance(part, ast.FunctionDef)])
                elif isinstance(node, ast.Attribute) and isinstance(node.ctx, ast.Store):
                    known.add(node.attr)
                elif isinstance(node, ast.Attribute):
                    read[node.attr] = path
        self.assertEqual({name: read[name] for name in read if name not in known}, {})

    def test_sets_stand_in_sorted_and_len(self):
        for path, tree in trees():
            inside = set()
            for node in ast.walk(tree):
                if isinstance(node, ast.Call) and isinstance(node.func, ast.Name) and node.func.id in ("sorted", "len"):
                    inside.update([id(part) for part in node.args])
            for node in ast.walk(tree):
                called = isinstance(node, ast.Call) and isinstance(node.func, ast.Name) and node.func.id == "set"
                if called or isinstance(node, (ast.Set, ast.SetComp)):
                    self.assertIn(id(node), inside, (path, node.lineno))

    def test_what_a_loop_walks_is_not_changed_in_it(self):
        """Neither by its name nor by a field, nor where it was taken out of what is changed."""
        for path, tree in trees():
            for function in [node for node in ast.walk(tree) if isinstance(node, ast.FunctionDef)]:
                sources = sources_in(function)
                for loop in [node for node in ast.walk(function) if isinstance(node, ast.For)]:
                    roots = set()
                    for walked in walked_by(loop.iter):
                        roots.update({root_of(walked)} | sources.get(root_of(walked), set()))
                    for changed in changed_in(loop.body):
                        met = {root_of(changed)} | sources.get(root_of(changed), set())
                        self.assertEqual((met & roots) - {None}, set(), (path, loop.lineno))

    def test_what_extends_is_not_what_is_extended(self):
        for path, tree in trees():
            for node in ast.walk(tree):
                if isinstance(node, ast.Call) and isinstance(node.func, ast.Attribute) and node.func.attr in ("extend", "update"):
                    for walked in [part for value in node.args for part in walked_by(value)]:
                        self.assertNotEqual(root_of(walked), root_of(node.func.value), (path, node.lineno))
                if isinstance(node, ast.AugAssign):
                    for walked in walked_by(node.value):
                        self.assertNotEqual(root_of(walked), root_of(node.target), (path, node.lineno))

    def test_names(self):
        for path, tree in trees():
            imported = {name.name for node in tree.body if isinstance(node, ast.ImportFrom) for name in node.names}
            for name in bound_names(tree):
                self.assertNotIn(name, BARRED, path)
                self.assertNotIn(name, imported, path)
                self.assertTrue(not name.startswith("__") or name in DOUBLE, (path, name))
                self.assertTrue(name in DOUBLE or not hasattr(builtins, name), (path, name))
                if name not in DOUBLE:
                    self.assertRegex(name, r"^(_?[A-Za-z][A-Za-z0-9_]*|_)$", path)
            for node in ast.walk(tree):
                if isinstance(node, ast.Attribute):
                    self.assertNotIn(node.attr, BARRED, path)

    def test_methods_of_builtin_values(self):
        own = set()
        for _, tree in trees():
            for node in ast.walk(tree):
                if isinstance(node, ast.ClassDef):
                    own.update([part.name for part in node.body if isinstance(part, ast.FunctionDef)])
        for path, tree in trees():
            for node in ast.walk(tree):
                if isinstance(node, ast.Call) and isinstance(node.func, ast.Attribute):
                    self.assertTrue(node.func.attr in own or node.func.attr in METHODS, (path, node.lineno))

    def test_words(self):
        for path in files():
            text = read(path)
            for word in WORDS:
                self.assertIsNone(re.search(r"\b%s\b" % re.escape(word), text), (path, word))
            self.assertIsNone(re.search(r"\btype\b", text), path)

    def test_percent_stands_in_no_string(self):
        for path, tree in trees():
            for node in ast.walk(tree):
                if isinstance(node, ast.Constant) and isinstance(node.value, str):
                    self.assertNotIn("%", node.value, path)

    def test_classes_have_no_base_but_errors(self):
        for path, tree in trees():
            for node in tree.body:
                if isinstance(node, ast.ClassDef) and not path.endswith("errors.py"):
                    self.assertEqual(node.bases, [], path)


if __name__ == "__main__":
    unittest.main()
