"""The rules of the language that can be told from the text of each file alone."""

import ast
import builtins
import re
import unittest
from pathlib import Path

FOLDER = Path(__file__).resolve().parent.parent / "anycompany"
LIBRARY = {"math": {"gcd", "lcm", "isqrt", "comb", "perm", "factorial"},
           "heapq": {"heappush", "heappop"}, "itertools": {"product", "combinations", "permutations"}}
BUILTINS = set("""
    len range enumerate zip min max sum abs sorted reversed int str bool list tuple dict set isinstance ord repr any
    all divmod Exception ValueError TypeError KeyError IndexError LookupError ZeroDivisionError NotImplemented
    map iter next property staticmethod classmethod super""".split())
METHODS = set("""
    append clear copy count endswith extend find get index insert isalnum isalpha isdigit islower isspace isupper
    items join keys ljust lower lstrip partition pop remove replace reverse rfind rjust rpartition rsplit rstrip
    setdefault split splitlines startswith strip update upper values zfill bit_length isascii add discard""".split())
BARRED = """
    typing enum Enum Generic Protocol namedtuple register mro elements open input law exec eval compile globals
    locals vars dir id help exit quit os gc""".split()
DECORATORS = ("property", "setter", "staticmethod", "classmethod")
SPECIAL = set("""
    __init__ __eq__ __repr__ __str__ __len__ __enter__ __exit__ __call__ __iter__ __lt__ __le__ __gt__ __ge__ __ne__
    __add__ __sub__ __mul__ __floordiv__ __mod__ __and__ __or__ __xor__ __neg__ __bool__ __contains__""".split())
TOP = (ast.ImportFrom, ast.FunctionDef, ast.ClassDef, ast.Assign)
NOT_ALLOWED = (ast.Import, ast.Global, ast.AsyncFunctionDef, ast.Await, ast.Div)


def files():
    return sorted(FOLDER.rglob("*.py"))


def local_names(function):
    """The parameters of a function and all names that it assigns."""
    found = {node.arg for node in ast.walk(function) if isinstance(node, ast.arg)}
    found |= {node.id for node in ast.walk(function) if isinstance(node, ast.Name) and isinstance(node.ctx, ast.Store)}
    return found


def imports_of(tree):
    return [node for node in ast.walk(tree) if isinstance(node, ast.ImportFrom)]


def defined(tree):
    """The names that a file binds itself at module level."""
    found = [node.name for node in tree.body if isinstance(node, (ast.FunctionDef, ast.ClassDef))]
    found += [target.id for node in tree.body if isinstance(node, ast.Assign) for target in node.targets]
    return found


class Language(unittest.TestCase):
    def setUp(self):
        self.trees = {path: ast.parse(path.read_text()) for path in files()}

    def nodes(self, *kinds):
        """The nodes of these kinds, each with the place where it stands."""
        return [(node, f"{path.name}:{getattr(node, 'lineno', 0)}") for path, tree in self.trees.items()
                for node in ast.walk(tree) if isinstance(node, kinds)]

    def test_files(self):
        self.assertIn(FOLDER / "__init__.py", files())
        for path in FOLDER.rglob("*"):
            if "__pycache__" not in path.parts:
                self.assertRegex(path.name, r"^[a-z0-9_]+\.py$")
        self.assertLessEqual(len(files()), 100)

    def test_sizes_and_characters(self):
        for path in files():
            text = path.read_text()
            with self.subTest(path.name):
                self.assertLessEqual(len(text.splitlines()), 399)
                self.assertLessEqual(max(map(len, text.splitlines())), 120)
                self.assertTrue(all(" " <= sign <= "~" or sign == "\n" for sign in text))
                self.assertTrue(text.endswith("\n"))
        for node, where in self.nodes(ast.FunctionDef):
            self.assertLessEqual(node.end_lineno - node.lineno + 1, 40, where)

    def test_module_level(self):
        for path, tree in self.trees.items():
            for node in tree.body[1:]:
                with self.subTest(f"{path.name}:{node.lineno}"):
                    self.assertIsInstance(node, TOP)
            self.assertIsNotNone(ast.get_docstring(tree))
            names = defined(tree) + [alias.name for node in imports_of(tree) for alias in node.names]
            self.assertEqual(len(names), len(set(names)), path.name)

    def test_imports_name_the_defining_file(self):
        trees = {f"anycompany.{path.stem}": tree for path, tree in self.trees.items()}
        for node, where in self.nodes(ast.ImportFrom):
            self.assertEqual(node.level, 0, where)
            names = {alias.name for alias in node.names}
            self.assertTrue(all(alias.asname is None for alias in node.names), where)
            if node.module in LIBRARY:
                self.assertLessEqual(names, LIBRARY[node.module], where)
            else:
                self.assertLessEqual(names, set(defined(trees[node.module])), where)

    def test_no_two_files_import_from_each_other(self):
        below = {path.stem: {node.module.partition(".")[2] for node in imports_of(tree)} - {""}
                 for path, tree in self.trees.items()}
        while below:
            free = [name for name, others in below.items() if not others & set(below)]
            self.assertTrue(free, below)
            for name in free:
                del below[name]

    def test_no_barred_statements(self):
        self.assertEqual(self.nodes(*NOT_ALLOWED), [])
        for node, where in self.nodes(ast.FunctionDef, ast.ClassDef):
            for decorator in node.decorator_list:
                name = decorator.attr if isinstance(decorator, ast.Attribute) else decorator.id
                self.assertIn(name, DECORATORS, where)

    def test_values(self):
        for node, where in self.nodes(ast.Constant):
            self.assertNotIsInstance(node.value, (float, complex), where)
        for path, tree in self.trees.items():
            docs = {ast.get_docstring(node, clean=False) for node in ast.walk(tree)
                    if isinstance(node, (ast.Module, ast.ClassDef, ast.FunctionDef))}
            for node in ast.walk(tree):
                if isinstance(node, ast.Constant) and isinstance(node.value, str) and node.value not in docs:
                    with self.subTest(f"{path.name}:{node.lineno}"):
                        self.assertNotIn(chr(37), node.value)
        for node, where in self.nodes(ast.BinOp):
            if isinstance(node.op, ast.Pow):
                self.assertIsInstance(node.right, ast.Constant, where)

    def test_builtins_and_names(self):
        for node, where in self.nodes(ast.Name):
            if isinstance(node.ctx, ast.Load) and node.id in dir(builtins):
                self.assertIn(node.id, BUILTINS, where)
        for path, tree in self.trees.items():
            imported = {alias.name for node in imports_of(tree) for alias in node.names}
            classes = {node.name for node in ast.walk(tree) if isinstance(node, ast.ClassDef)}
            for node in ast.walk(tree):
                if isinstance(node, ast.FunctionDef):
                    with self.subTest(f"{path.name}:{node.name}"):
                        self.assertEqual(local_names(node) & (imported | classes | set(dir(builtins))), set())
                        self.assertNotIn(node.name, dir(builtins))

    def test_double_underscore_methods(self):
        for node, where in self.nodes(ast.FunctionDef):
            if node.name.startswith("__"):
                self.assertIn(node.name, SPECIAL, where)
            if node.name == "__iter__":
                self.assertEqual(len(node.body), 1, where)
        for node, where in self.nodes(ast.Attribute):
            if node.attr.startswith("__"):
                self.assertEqual(node.attr, "__init__", where)

    def test_barred_words(self):
        for path in files():
            for word in BARRED:
                with self.subTest(f"{path.name}: {word}"):
                    self.assertIsNone(re.search(rf"\b{word}\b", path.read_text()))

    def test_methods_of_values(self):
        own = {node.name for tree in self.trees.values() for node in ast.walk(tree)
               if isinstance(node, ast.FunctionDef)}
        for node, where in self.nodes(ast.Call):
            if isinstance(node.func, ast.Attribute):
                self.assertIn(node.func.attr, METHODS | own, where)


if __name__ == "__main__":
    unittest.main()
