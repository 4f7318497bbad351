"""The files of the package keep to the parts of LANGUAGE.md that can be seen at a glance."""

import ast
import builtins
import pathlib
import unittest

ROOT = pathlib.Path(__file__).resolve().parent.parent
FOLDER = ROOT / "landways"
LIBRARY = {"heapq": {"heappush", "heappop", "heapify", "heapreplace", "heappushpop"},
           "math": {"gcd", "lcm", "isqrt", "comb", "perm", "factorial"}}
BUILTINS = set("""len range enumerate zip min max sum abs sorted reversed int str bool list tuple dict set isinstance
    ord repr any all divmod pow iter map ValueError KeyError IndexError LookupError NotImplemented TypeError property
    next staticmethod classmethod super""".split())
METHODS = {"__init__", "__eq__", "__repr__", "__str__", "__len__", "__call__", "__iter__", "__contains__"}
BARRED = set("""register mro elements open input law type typing enum Enum Generic Protocol ABC namedtuple id vars dir
    exit os sys eval exec compile globals locals""".split())


def files():
    return sorted(FOLDER.rglob("*.py"))


def trees():
    return [(path, ast.parse(path.read_text())) for path in files()]


def names_bound(tree):
    """All names that a file gives a meaning."""
    for node in ast.walk(tree):
        if isinstance(node, (ast.FunctionDef, ast.ClassDef)):
            yield node, node.name
        elif isinstance(node, ast.Name) and isinstance(node.ctx, ast.Store):
            yield node, node.id
        elif isinstance(node, ast.arg):
            yield node, node.arg
        elif isinstance(node, ast.ExceptHandler) and node.name:
            yield node, node.name


class Language(unittest.TestCase):

    def test_files_and_lines(self):
        for path in FOLDER.rglob("*"):
            if path.name != "__pycache__" and path.parent.name != "__pycache__":
                self.assertEqual(path.suffix, ".py", path)
        for path in files():
            text = path.read_text()
            self.assertTrue(all(sign == "\n" or " " <= sign <= "~" for sign in text), path)
            rows = text.split("\n")
            self.assertLess(len(rows), 400, path)
            self.assertLessEqual(max(len(row) for row in rows), 120, path)

    def test_functions_are_small(self):
        for path, tree in trees():
            for node in ast.walk(tree):
                if isinstance(node, ast.FunctionDef):
                    self.assertLessEqual(node.end_lineno - node.lineno + 1, 40, (path, node.name))

    def test_imports(self):
        edges = {}
        for path, tree in trees():
            name = "landways." + path.stem
            edges[name] = []
            for node in ast.walk(tree):
                self.assertNotIsInstance(node, ast.Import, path)
                if isinstance(node, ast.ImportFrom):
                    self.assertEqual(node.level, 0)
                    self.assertTrue(all(one.asname is None for one in node.names), path)
                    if node.module in LIBRARY:
                        self.assertLessEqual({one.name for one in node.names}, LIBRARY[node.module])
                        continue
                    edges[name].append(node.module)
                    text = (FOLDER / (node.module.removeprefix("landways.") + ".py")).read_text()
                    own = {found for where, found in names_bound(ast.parse(text)) if where.col_offset == 0}
                    self.assertLessEqual({one.name for one in node.names}, own, path)
        while edges:
            free = [name for name in edges if not set(edges[name]) & set(edges)]
            self.assertTrue(free, "files import from each other")
            edges = {name: edges[name] for name in edges if name not in free}

    def test_names(self):
        for path, tree in trees():
            imported = {one.name for node in ast.walk(tree) if isinstance(node, ast.ImportFrom) for one in node.names}
            classes = {node.name for node in ast.walk(tree) if isinstance(node, ast.ClassDef)}
            methods = {id(part) for node in ast.walk(tree) if isinstance(node, ast.ClassDef) for part in node.body}
            for node, name in names_bound(tree):
                place = (path, name)
                self.assertNotIn(name, BARRED, place)
                if name.startswith("__"):
                    self.assertIn(name, METHODS, place)
                elif id(node) not in methods:
                    self.assertFalse(hasattr(builtins, name), place)
                    if not isinstance(node, ast.ClassDef):
                        self.assertNotIn(name, imported | classes, place)

    def test_builtins(self):
        for path, tree in trees():
            for node in ast.walk(tree):
                if isinstance(node, ast.Name) and hasattr(builtins, node.id):
                    self.assertIn(node.id, BUILTINS, (path, node.lineno))

    def test_generators_have_names_of_their_own(self):
        found = [node for _, tree in trees() for node in ast.walk(tree) if isinstance(node, ast.FunctionDef)]
        yielding = {node.name for node in found if any(isinstance(part, ast.Yield) for part in ast.walk(node))}
        for name in yielding:
            self.assertEqual(len([node for node in found if node.name == name]), 1, name)

    def test_names_of_properties_mean_nothing_else(self):
        nodes = [(node, part) for _, tree in trees() for node in ast.walk(tree) if isinstance(node, ast.ClassDef)
                 for part in node.body if isinstance(part, ast.FunctionDef)]
        marked = {part.name for _, part in nodes if part.decorator_list}
        self.assertFalse(marked & {part.name for _, part in nodes if not part.decorator_list})
        stored = {node.attr for _, tree in trees() for node in ast.walk(tree)
                  if isinstance(node, ast.Attribute) and isinstance(node.ctx, ast.Store)}
        self.assertFalse(marked & stored)

    def test_what_is_imported_is_used(self):
        for path, tree in trees():
            imported = {one.name for node in ast.walk(tree) if isinstance(node, ast.ImportFrom) for one in node.names}
            used = {node.id for node in ast.walk(tree) if isinstance(node, ast.Name)}
            self.assertLessEqual(imported, used, path)

    def test_kinds_of_expressions(self):
        barred = (ast.GeneratorExp, ast.Global, ast.AsyncFunctionDef, ast.Await, ast.Div, ast.Import, ast.AnnAssign)
        for path, tree in trees():
            for node in ast.walk(tree):
                self.assertNotIsInstance(node, barred, (path, getattr(node, "lineno", 0)))
                if isinstance(node, ast.Constant) and isinstance(node.value, str):
                    self.assertNotIn("%", node.value, path)
                if isinstance(node, ast.Call) and isinstance(node.func, ast.Attribute):
                    self.assertNotEqual(node.func.attr, "sort", path)
                if isinstance(node, ast.FunctionDef):
                    for mark in node.decorator_list:
                        self.assertIn(ast.unparse(mark), ("property", "classmethod", "staticmethod"), path)
