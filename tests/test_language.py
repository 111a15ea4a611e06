"""The rules of LANGUAGE.md that can be checked by a look at the code."""

import ast
import builtins
import pathlib
import re
import unittest

FOLDER = pathlib.Path(__file__).resolve().parent.parent / "turnsfit"
BUILTINS = set("""len range enumerate zip min max sum abs sorted reversed int str bool list tuple dict set
    isinstance ord repr any all divmod Exception ValueError TypeError KeyError IndexError LookupError""".split())
METHODS = set("""append clear copy count endswith extend find get index insert isalnum isalpha isdigit islower isspace
    isupper items join keys ljust lower lstrip partition pop remove replace reverse rfind rjust rpartition rsplit
    rstrip setdefault split splitlines startswith strip update upper values zfill bit_length add discard""".split())
BARRED_WORDS = re.compile(r"\b(type|typing|typing_extensions|enum|Enum|Generic|Protocol|ABC|namedtuple|abstractmethod"
                          r"|register|mro|elements|input|law|version_info|_wall)\b|dataclass|overload|contextmanager")
BARRED_NODES = (ast.AsyncFunctionDef, ast.Await, ast.Global, ast.Nonlocal, ast.Yield, ast.YieldFrom, ast.With,
                ast.Match, ast.NamedExpr, ast.GeneratorExp, ast.JoinedStr, ast.Div, ast.Pow, ast.Set)
ATTRIBUTES_BARRED = set("""items keys values pop update append clear extend insert remove reverse setdefault sort args
    encode decode hex fromhex format""".split())


def files():
    return sorted(FOLDER.glob("*.py"))


def trees():
    return [(path.name, ast.parse(path.read_text())) for path in files()]


def without_docstrings(tree):
    for node in ast.walk(tree):
        if isinstance(node, (ast.Module, ast.ClassDef, ast.FunctionDef)) and ast.get_docstring(node) is not None:
            node.body = node.body[1:]
    return tree


def bound_names(tree):
    for node in ast.walk(tree):
        if isinstance(node, ast.Name) and isinstance(node.ctx, ast.Store):
            yield node.id, node.lineno
        elif isinstance(node, (ast.FunctionDef, ast.ClassDef)):
            yield node.name, node.lineno
        elif isinstance(node, ast.arg):
            yield node.arg, node.lineno


class LanguageTest(unittest.TestCase):
    def test_files(self):
        self.assertEqual([path.name for path in FOLDER.iterdir() if path.name != "__pycache__"
                          and not re.fullmatch(r"[a-z_]+\.py", path.name)], [])
        for path in files():
            lines = path.read_text().split("\n")
            self.assertLessEqual(len(lines), 400, path)
            for number, line in enumerate(lines, 1):
                self.assertLessEqual(len(line), 120, (path, number))
                self.assertTrue(all(" " <= sign <= "~" for sign in line), (path, number))

    def test_functions_are_short(self):
        for name, tree in trees():
            for node in ast.walk(tree):
                if isinstance(node, ast.FunctionDef):
                    self.assertLessEqual(node.end_lineno - node.lineno + 1, 40, (name, node.name))
                    self.assertEqual(node.decorator_list, [], (name, node.name))

    def test_imports(self):
        modules = {path.stem: ast.parse(path.read_text()) for path in files()}
        for name, tree in trees():
            for node in ast.walk(tree):
                self.assertNotIsInstance(node, ast.Import, name)
                if isinstance(node, ast.ImportFrom):
                    package, _, module = node.module.partition(".")
                    self.assertEqual((package, node.level), ("turnsfit", 0), name)
                    told = {part.name for part in modules[module].body
                            if isinstance(part, (ast.FunctionDef, ast.ClassDef))}
                    told |= {target.id for part in modules[module].body if isinstance(part, ast.Assign)
                             for target in part.targets}
                    for alias in node.names:
                        self.assertIn(alias.name, told, (name, module))

    def test_imports_are_used_and_not_bound_again(self):
        for name, tree in trees():
            imported = {alias.name for node in ast.walk(tree) if isinstance(node, ast.ImportFrom)
                        for alias in node.names}
            used = {node.id for node in ast.walk(tree) if isinstance(node, ast.Name)}
            self.assertEqual(imported - used, set(), name)
            classes = {node.name for node in ast.walk(tree) if isinstance(node, ast.ClassDef)}
            for bound, line in bound_names(tree):
                self.assertNotIn(bound, imported, (name, line))
                if bound in classes:
                    self.assertTrue(bound[0].isupper(), (name, line))

    def test_names(self):
        for name, tree in trees():
            methods = {node.name for outer in ast.walk(tree) if isinstance(outer, ast.ClassDef) for node in outer.body
                       if isinstance(node, ast.FunctionDef)}
            for bound, line in bound_names(tree):
                if bound in ("__init__", "__eq__"):
                    continue
                self.assertRegex(bound, r"^(_|_?[A-Za-z][A-Za-z0-9_]*)$", (name, line))
                if bound not in methods:
                    self.assertFalse(hasattr(builtins, bound), (name, line, bound))

    def test_nodes_and_words(self):
        for name, tree in trees():
            tree = without_docstrings(tree)
            for node in ast.walk(tree):
                self.assertNotIsInstance(node, BARRED_NODES, (name, getattr(node, "lineno", 0)))
                if isinstance(node, ast.Constant) and isinstance(node.value, str):
                    self.assertNotIn("%", node.value, (name, node.lineno))
                if isinstance(node, ast.Constant):
                    self.assertNotIsInstance(node.value, (float, complex), (name, node.lineno))
                if isinstance(node, ast.Compare) and isinstance(node.ops[0], (ast.Is, ast.IsNot)):
                    self.assertIsInstance(node.comparators[0], ast.Constant, (name, node.lineno))
                if isinstance(node, ast.Attribute) and isinstance(node.ctx, ast.Store):
                    self.assertNotIn(node.attr, ATTRIBUTES_BARRED, (name, node.lineno))
            self.assertIsNone(BARRED_WORDS.search(ast.unparse(tree)), name)

    def test_calls(self):
        own = set()
        for _, tree in trees():
            own |= {node.name for node in ast.walk(tree) if isinstance(node, (ast.FunctionDef, ast.ClassDef))}
        for name, tree in trees():
            local = {bound for bound, _ in bound_names(tree)}
            for node in ast.walk(tree):
                if not isinstance(node, ast.Call):
                    continue
                if isinstance(node.func, ast.Attribute):
                    self.assertIn(node.func.attr, METHODS | own, (name, node.lineno))
                    self.assertEqual(node.keywords, [], (name, node.lineno))
                else:
                    self.assertIn(node.func.id, BUILTINS | own | local, (name, node.lineno))

    def test_module_level(self):
        for name, tree in trees():
            for node in without_docstrings(tree).body:
                self.assertIsInstance(node, (ast.ImportFrom, ast.FunctionDef, ast.ClassDef, ast.Assign), name)
                if isinstance(node, ast.Assign):
                    ast.literal_eval(node.value)

    def test_sets(self):
        """A set is made in sorted(..) or len(..) alone."""
        for name, tree in trees():
            held = {id(node.args[0]) for node in ast.walk(tree) if isinstance(node, ast.Call) and node.args
                    and isinstance(node.func, ast.Name) and node.func.id in ("sorted", "len")}
            for node in ast.walk(tree):
                is_set = isinstance(node, ast.SetComp) or (
                    isinstance(node, ast.Call) and isinstance(node.func, ast.Name) and node.func.id == "set")
                if is_set:
                    self.assertIn(id(node), held, (name, node.lineno))

    def test_no_function_calls_itself(self):
        """What is handed in may be nested deep, so nothing is read by recursion."""
        for name, tree in trees():
            for node in tree.body:
                if isinstance(node, ast.FunctionDef):
                    called = {part.func.id for part in ast.walk(node) if isinstance(part, ast.Call)
                              and isinstance(part.func, ast.Name)}
                    self.assertNotIn(node.name, called, name)


if __name__ == "__main__":
    unittest.main()
