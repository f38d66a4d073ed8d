"""The plainest rules of the program's language, L1 to L28, over the files of the package; not all of them."""

import ast
import builtins
import os
import re
import unittest

FOLDER = os.path.join(os.path.dirname(os.path.abspath(__file__)), os.pardir, "selfkits")
LIBRARY = {
    "heapq": "heappush heappop heapify heapreplace heappushpop", "math": "gcd lcm isqrt comb perm factorial",
    "itertools": "product combinations permutations chain accumulate pairwise islice zip_longest",
    "collections": "defaultdict deque", "__future__": "annotations",
}
ALLOWED = """len range enumerate zip min max sum abs sorted reversed int str bool bytes list tuple dict set frozenset
    isinstance ord repr any all divmod pow iter next map getattr hasattr setattr type super property staticmethod
    classmethod Exception ValueError TypeError KeyError IndexError LookupError ZeroDivisionError ArithmeticError
    OverflowError RuntimeError NotImplementedError AttributeError StopIteration NotImplemented""".split()
METHODS = """append clear copy count endswith extend find get index insert isalnum isalpha isdigit islower isspace
    isupper items join keys ljust lower lstrip partition pop remove replace reverse rfind rjust rpartition rsplit
    rstrip setdefault split splitlines startswith strip update upper values zfill bit_length add discard sort format
    title capitalize swapcase casefold center expandtabs removeprefix removesuffix rindex isascii isdecimal isnumeric
    istitle isidentifier isprintable appendleft popleft extendleft rotate __init__""".split()
BARRED = """register mro elements open input law version_info with_traceback add_note attrgetter breakpoint compile
    copyright credits delattr dir eval exec exit gc globals help id importlib license locals methodcaller os quit
    vars sys""".split()


def sources():
    for name in sorted(os.listdir(FOLDER)):
        if name != "__pycache__":
            with open(os.path.join(FOLDER, name), encoding="utf-8") as file:
                yield name, file.read()


def bound_names(tree):
    for node in ast.walk(tree):
        if isinstance(node, (ast.FunctionDef, ast.ClassDef)):
            yield node.name
        elif isinstance(node, ast.arg):
            yield node.arg
        elif isinstance(node, ast.Name) and not isinstance(node.ctx, ast.Load):
            yield node.id
        elif isinstance(node, ast.ImportFrom):
            yield from (alias.asname or alias.name for alias in node.names)


def top_names(tree):
    for node in tree.body:
        if isinstance(node, (ast.FunctionDef, ast.ClassDef)):
            yield node.name
        elif isinstance(node, ast.Assign):
            yield from (target.id for target in node.targets)
        elif isinstance(node, ast.ImportFrom):
            yield from (alias.asname or alias.name for alias in node.names)


class LanguageTest(unittest.TestCase):
    def setUp(self):
        self.files = [(name, text, ast.parse(text)) for name, text in sources()]
        self.own = {node.name for _, _, tree in self.files for node in ast.walk(tree)
                    if isinstance(node, (ast.FunctionDef, ast.ClassDef))}

    def test_files(self):
        self.assertIn("__init__.py", [name for name, _, _ in self.files])
        for name, text, _ in self.files:
            self.assertRegex(name, r"^[a-z_]+\.py$")
            self.assertRegex(text, r"\A[ -~\n]*\Z", name)
            self.assertLess(len(text.splitlines()), 400, name)
            self.assertLess(max(map(len, text.splitlines())), 121, name)

    def test_functions_are_short_and_told(self):
        for name, _, tree in self.files:
            self.assertIsNotNone(ast.get_docstring(tree), name)
            for node in ast.walk(tree):
                if isinstance(node, ast.FunctionDef):
                    self.assertLess(node.end_lineno - node.lineno, 40, node.name)
                    self.assertEqual(node.decorator_list, [], node.name)

    def test_imports(self):
        defines = {name: {node.name for node in tree.body if isinstance(node, (ast.FunctionDef, ast.ClassDef))}
                   | {node.targets[0].id for node in tree.body if isinstance(node, ast.Assign)}
                   for name, _, tree in self.files}
        for name, _, tree in self.files:
            inner = [node for node in ast.walk(tree) if isinstance(node, (ast.Import, ast.ImportFrom))]
            self.assertEqual(inner, [node for node in tree.body if isinstance(node, (ast.Import, ast.ImportFrom))])
            for node in inner:
                self.assertIsInstance(node, ast.ImportFrom, name)
                self.assertEqual(node.level, 0, name)
                for alias in node.names:
                    if node.module in LIBRARY:
                        self.assertIn(alias.name, LIBRARY[node.module].split(), name)
                        self.assertIsNone(alias.asname, name)
                    else:
                        self.assertRegex(node.module, r"^selfkits\.[a-z_]+$", name)
                        self.assertIn(alias.name, defines[node.module.split(".")[1] + ".py"], name)

    def test_imports_run_in_no_ring(self):
        waiting = {name[:-3]: {node.module.split(".")[1] for node in tree.body
                               if isinstance(node, ast.ImportFrom) and node.module.startswith("selfkits.")}
                   for name, _, tree in self.files}
        while waiting:
            ready = [name for name in waiting if not waiting[name] & set(waiting)]
            self.assertNotEqual(ready, [], sorted(waiting))
            for name in ready:
                del waiting[name]

    def test_names(self):
        for name, _, tree in self.files:
            top = list(top_names(tree))
            self.assertEqual(len(top), len(set(top)), name)
            for bound in bound_names(tree):
                self.assertTrue(bound == "_" or bound not in dir(builtins), (name, bound))
                self.assertNotIn(bound, BARRED, name)
                if bound != "__init__":
                    self.assertRegex(bound, r"^(_|_?[A-Za-z][A-Za-z0-9_]*)$", name)

    def test_imported_names_are_not_assigned(self):
        for name, _, tree in self.files:
            told = {alias.name for node in tree.body if isinstance(node, ast.ImportFrom) for alias in node.names}
            told |= {node.name for node in tree.body if isinstance(node, ast.ClassDef)}
            for node in ast.walk(tree):
                if isinstance(node, ast.arg):
                    self.assertNotIn(node.arg, told, name)
                if isinstance(node, ast.Name) and not isinstance(node.ctx, ast.Load):
                    self.assertNotIn(node.id, told, name)

    def test_builtins_and_methods(self):
        for name, _, tree in self.files:
            bound = set(bound_names(tree))
            for node in ast.walk(tree):
                if isinstance(node, ast.Name) and isinstance(node.ctx, ast.Load) and node.id not in bound:
                    self.assertIn(node.id, ALLOWED, name)
                if isinstance(node, ast.Call) and isinstance(node.func, ast.Attribute):
                    self.assertIn(node.func.attr, METHODS + sorted(self.own), name)

    def test_no_floats_no_quotients_no_odd_statements(self):
        odd = (ast.Div, ast.AsyncFunctionDef, ast.AsyncFor, ast.AsyncWith, ast.Await, ast.Import, ast.Delete)
        for name, _, tree in self.files:
            for node in ast.walk(tree):
                self.assertNotIsInstance(node, odd, name)
                if isinstance(node, ast.Constant):
                    self.assertNotIsInstance(node.value, (float, complex), name)
                if isinstance(node, ast.BinOp) and isinstance(node.op, ast.Pow):
                    self.assertIsInstance(node.right, ast.Constant, name)
                if isinstance(node, ast.Compare) and isinstance(node.ops[0], (ast.Is, ast.IsNot)):
                    self.assertIn(getattr(node.comparators[0], "value", 0), (None, True, False), name)

    def test_words(self):
        for name, text, tree in self.files:
            self.assertIsNone(re.search(r"_wall|_WallAttr|dataclass|overload|contextmanager", text), name)
            for node in ast.walk(tree):
                if isinstance(node, ast.ExceptHandler):
                    self.assertIsNotNone(node.type, name)
                if isinstance(node, ast.Raise) and node.exc is not None:
                    self.assertIsInstance(node.exc, ast.Call, name)
                    self.assertIsInstance(node.exc.func, ast.Name, name)


if __name__ == "__main__":
    unittest.main()
