"""Those rules of the language that a look at the syntax can check; the others are left to the reader."""

import ast
import unittest
from pathlib import Path

FOLDER = Path(__file__).resolve().parent.parent / "undrawn"

LIBRARY = {
    "heapq": {"heappush", "heappop", "heapify", "heapreplace", "heappushpop"},
    "math": {"gcd", "lcm", "isqrt", "comb", "perm", "factorial"},
    "itertools": {"product", "combinations", "permutations", "chain", "accumulate", "pairwise", "islice", "zip_longest"},
    "collections": {"defaultdict"},
}
BUILTINS = set(
    "len range enumerate zip min max sum abs sorted reversed int str bool bytes list tuple dict set frozenset isinstance "
    "ord repr any all divmod pow getattr hasattr setattr iter next map super Exception ValueError TypeError KeyError "
    "IndexError LookupError ZeroDivisionError ArithmeticError OverflowError RuntimeError NotImplementedError "
    "AttributeError StopIteration NotImplemented property staticmethod classmethod".split()
)
METHODS = set(
    "append clear copy count endswith extend find get index insert isalnum isalpha isdigit islower isspace isupper items "
    "join keys ljust lower lstrip partition pop remove replace reverse rfind rjust rpartition rsplit rstrip setdefault "
    "split splitlines startswith strip update upper values zfill bit_length add discard sort".split()
)
BARRED = set(
    "register mro elements open input law version_info with_traceback add_note compile copyright credits delattr dir eval "
    "exec exit gc globals help id importlib license locals methodcaller os quit type vars sys hash round format chr "
    "object print filter bin hex oct float complex slice typing enum dataclass namedtuple abstractmethod".split()
)
DOUBLE = {"__init__", "__eq__", "__len__", "__repr__", "__str__"}
STATEMENTS = (ast.FunctionDef, ast.ClassDef, ast.ImportFrom, ast.Assign)

AT_ONCE = {"list", "tuple", "dict", "sorted", "sum", "any", "all", "enumerate", "zip", "min", "max", "reversed", "len"}
KEPT = {"zip", "enumerate", "reversed", "range", "items", "keys", "values", "map"}
BAD_ATTRIBUTES = set("items keys values pop update append clear extend insert remove reverse setdefault sort args format".split())


def called(node):
    """The name of what is called."""
    return node.func.id if isinstance(node.func, ast.Name) else getattr(node.func, "attr", None)


def sources():
    return {path.name: path.read_text(encoding="utf-8") for path in sorted(FOLDER.glob("*.py"))}


def bound_names(node):
    if isinstance(node, (ast.FunctionDef, ast.ClassDef)):
        return [node.name]
    if isinstance(node, ast.arg):
        return [node.arg]
    if isinstance(node, ast.Name) and isinstance(node.ctx, ast.Store):
        return [node.id]
    return [node.attr] if isinstance(node, ast.Attribute) else []


class LanguageTest(unittest.TestCase):
    def each(self, *kinds):
        for name, text in sources().items():
            for node in ast.walk(ast.parse(text)):
                if not kinds or isinstance(node, kinds):
                    yield f"{name}:{getattr(node, 'lineno', 0)}", node

    def test_folder(self):
        for path in FOLDER.iterdir():
            if path.name != "__pycache__":
                self.assertTrue(path.is_file() and path.suffix == ".py", path)
                self.assertTrue(path.stem.isascii() and path.stem == path.stem.lower(), path)

    def test_lines_and_characters(self):
        for name, text in sources().items():
            self.assertLessEqual(len(text.splitlines()), 399, name)
            for line in text.split("\n"):
                self.assertLessEqual(len(line), 120, (name, line))
                self.assertTrue(all(" " <= letter <= "~" for letter in line), (name, line))

    def test_functions_are_small(self):
        for place, node in self.each(ast.FunctionDef):
            self.assertLessEqual(node.end_lineno - node.lineno + 1, 40, place)

    def test_module_level(self):
        for name, text in sources().items():
            for k, node in enumerate(ast.parse(text).body):
                docstring = k == 0 and isinstance(node, ast.Expr) and isinstance(node.value, ast.Constant)
                self.assertTrue(docstring or isinstance(node, STATEMENTS), f"{name}:{node.lineno}")

    def test_imports(self):
        modules = {f"undrawn.{name[:-3]}": text for name, text in sources().items()}
        for place, node in self.each(ast.Import, ast.ImportFrom):
            self.assertIsInstance(node, ast.ImportFrom, place)
            names = {alias.name for alias in node.names}
            self.assertTrue(all(alias.asname is None for alias in node.names), place)
            if node.module in LIBRARY:
                self.assertLessEqual(names, LIBRARY[node.module], place)
            else:
                defined = [bound_names(n) for part in ast.parse(modules[node.module]).body for n in ast.walk(part)]
                self.assertLessEqual(names, {name for row in defined for name in row}, place)

    def test_names(self):
        for place, node in self.each():
            for name in bound_names(node):
                self.assertNotIn(name, BARRED, place)
                self.assertTrue(name in DOUBLE or not name.startswith("__"), place)
                if not isinstance(node, ast.Attribute) or isinstance(node.ctx, ast.Store):
                    self.assertNotIn(name, BUILTINS - {"super"}, place)
            if isinstance(node, ast.Name) and node.id == "_":
                self.assertIsInstance(node.ctx, ast.Store, place)

    def test_calls(self):
        defined = {name for _, node in self.each(ast.FunctionDef, ast.ClassDef) for name in bound_names(node)}
        local = {name for _, node in self.each(ast.arg, ast.Name) for name in bound_names(node)}
        imported = {alias.name for _, node in self.each(ast.ImportFrom) for alias in node.names}
        for place, node in self.each(ast.Call):
            if isinstance(node.func, ast.Name):
                self.assertIn(node.func.id, defined | local | imported | BUILTINS, place)
            else:
                self.assertIsInstance(node.func, ast.Attribute, place)
                self.assertIn(node.func.attr, defined | METHODS | {"__init__"}, place)

    def test_values_and_statements(self):
        barred = (ast.Global, ast.AsyncFunctionDef, ast.Await, ast.Div, ast.MatMult)
        for place, node in self.each():
            self.assertNotIsInstance(node, barred, place)
            if isinstance(node, ast.Constant):
                self.assertNotIsInstance(node.value, (float, complex), place)
                self.assertFalse(isinstance(node.value, str) and "%" in node.value, place)
            if isinstance(node, ast.BinOp) and isinstance(node.op, ast.Pow):
                self.assertIsInstance(node.right, ast.Constant, place)
            if isinstance(node, ast.Compare) and any(isinstance(op, (ast.Is, ast.IsNot)) for op in node.ops):
                self.assertTrue(all(isinstance(right, ast.Constant) for right in node.comparators), place)

    def test_iterated_at_once(self):
        for name, text in sources().items():
            tree = ast.parse(text)
            allowed = []
            for node in ast.walk(tree):
                if isinstance(node, (ast.For, ast.comprehension)):
                    allowed.append(node.iter)
                if isinstance(node, ast.Call) and isinstance(node.func, ast.Name) and node.func.id in AT_ONCE:
                    allowed += node.args
                if isinstance(node, ast.Compare):
                    allowed += node.comparators
            for node in ast.walk(tree):
                if isinstance(node, ast.Call) and called(node) in KEPT and node not in allowed:
                    self.fail(f"{name}:{node.lineno}")

    def test_no_generators_and_no_kept_sets(self):
        for name, text in sources().items():
            tree = ast.parse(text)
            allowed = [arg for node in ast.walk(tree) if isinstance(node, ast.Call) and called(node) in ("sorted", "len") for arg in node.args]
            for node in ast.walk(tree):
                place = f"{name}:{getattr(node, 'lineno', 0)}"
                self.assertNotIsInstance(node, (ast.GeneratorExp, ast.Yield, ast.YieldFrom, ast.Set, ast.SetComp), place)
                if isinstance(node, ast.Call) and called(node) == "set":
                    self.assertIn(node, allowed, place)

    def test_local_names(self):
        for name, text in sources().items():
            tree = ast.parse(text)
            outer = [alias.name for node in tree.body if isinstance(node, ast.ImportFrom) for alias in node.names]
            outer += [node.name for node in tree.body if isinstance(node, ast.ClassDef)]
            self.assertEqual(len(outer), len(set(outer)), name)
            for function in ast.walk(tree):
                if isinstance(function, ast.FunctionDef):
                    for node in ast.walk(function):
                        if isinstance(node, ast.arg) or isinstance(node, ast.Name):
                            for bound in bound_names(node):
                                self.assertNotIn(bound, outer, f"{name}:{node.lineno}")

    def test_attributes(self):
        stored = {node.attr for _, node in self.each(ast.Attribute) if isinstance(node.ctx, ast.Store)}
        methods = {part.name for _, node in self.each(ast.ClassDef) for part in node.body if isinstance(part, ast.FunctionDef)}
        self.assertFalse(stored & BAD_ATTRIBUTES)
        for place, node in self.each(ast.ClassDef):
            own = {part.attr for part in ast.walk(node) if isinstance(part, ast.Attribute) and isinstance(part.ctx, ast.Store)}
            self.assertFalse(own & {part.name for part in node.body if isinstance(part, ast.FunctionDef)}, place)
        for place, node in self.each(ast.Attribute):
            if isinstance(node.ctx, ast.Load):
                self.assertIn(node.attr, stored | methods | METHODS, place)

    def test_raised_errors_and_tries(self):
        own = {node.name for node in ast.parse(sources()["errors.py"]).body if isinstance(node, ast.ClassDef)}
        for place, node in self.each(ast.Raise, ast.Try, ast.Lambda, ast.With, ast.Match, ast.NamedExpr):
            self.assertIsInstance(node, (ast.Raise, ast.Try), place)
            if isinstance(node, ast.Raise):
                self.assertTrue(isinstance(node.exc, ast.Call) and isinstance(node.exc.func, ast.Name), place)
            else:
                # No error of Python's own is caught anywhere.
                self.assertEqual([handler.type.id for handler in node.handlers if handler.type.id not in own], [], place)
                self.assertEqual(node.finalbody, [], place)

    def test_tables_at_module_level(self):
        for name, text in sources().items():
            for node in ast.parse(text).body:
                if isinstance(node, ast.Assign):
                    inner = [part for part in ast.walk(node.value) if isinstance(part, (ast.List, ast.Dict)) and part is not node.value]
                    self.assertEqual(inner, [], f"{name}:{node.lineno}")
                    self.assertEqual(len(node.targets), 1)
