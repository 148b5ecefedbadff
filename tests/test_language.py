"""The form of the package's code: what can be seen of the language rules by reading it."""

import ast
import pathlib
import re
import unittest

PACKAGE = pathlib.Path(__file__).resolve().parent.parent / "handedon"
FILES = sorted(path for path in PACKAGE.rglob("*") if "__pycache__" not in path.parts)

OWN_NAMES = set(
    "len range enumerate zip min max sum abs sorted reversed int str bool bytes list tuple dict set isinstance ord repr "
    "any all divmod Exception ValueError KeyError IndexError LookupError ZeroDivisionError ArithmeticError "
    "OverflowError RuntimeError NotImplementedError StopIteration".split()
)
OWN_METHODS = set(
    "append clear copy count endswith extend find get index insert isalnum isalpha isdigit islower isspace isupper "
    "items join keys ljust lower lstrip partition pop remove replace reverse rfind rjust rpartition rsplit rstrip "
    "setdefault split splitlines startswith strip update upper values zfill bit_length removeprefix removesuffix "
    "add discard sort __init__".split()
)
SHUT_NODES = (
    ast.With, ast.Match, ast.Global, ast.Nonlocal, ast.Yield, ast.YieldFrom, ast.AsyncFunctionDef, ast.AsyncFor,
    ast.AsyncWith, ast.Await, ast.GeneratorExp, ast.NamedExpr, ast.Div, ast.MatMult, ast.Import,
)
SHUT_WORDS = re.compile(
    r"\b(type|typing|typing_extensions|enum|Enum|IntEnum|StrEnum|Flag|IntFlag|Generic|Protocol|ABC|ABCMeta|namedtuple"
    r"|NamedTuple|TypedDict|TYPE_CHECKING|abstractmethod)\b|dataclass|overload|contextmanager"
)
SHUT_NAMES = set(
    "register mro elements open input version_info with_traceback add_note attrgetter breakpoint builtins compile "
    "copyright credits delattr dir eval exec exit gc getattr globals hasattr help id importlib license locals "
    "methodcaller os quit setattr super type vars sys hash next map round filter format iter object property".split()
)


def trees():
    return [(path.name, ast.parse(path.read_text())) for path in FILES]


def imports(tree):
    return [node for node in ast.walk(tree) if isinstance(node, ast.ImportFrom)]


def called(node):
    """The name of the def or method that the call calls, where it has one."""
    return node.func.id if isinstance(node.func, ast.Name) else getattr(node.func, "attr", None)


def bound_names(tree):
    """All names that a file binds anywhere."""
    found = {alias.name for row in imports(tree) for alias in row.names}
    for node in ast.walk(tree):
        if isinstance(node, (ast.FunctionDef, ast.ClassDef)):
            found.add(node.name)
        elif isinstance(node, ast.arg):
            found.add(node.arg)
        elif isinstance(node, ast.Name) and isinstance(node.ctx, ast.Store):
            found.add(node.id)
        elif isinstance(node, ast.ExceptHandler) and node.name:
            found.add(node.name)
    return found


class LanguageTest(unittest.TestCase):
    def test_only_plainly_named_code_lies_in_the_package(self):
        self.assertIn("__init__.py", [path.name for path in FILES])
        for path in FILES:
            self.assertTrue(re.fullmatch(r"[a-z][a-z0-9_]*\.py|__init__\.py|__main__\.py", path.name), path)

    def test_signs_and_sizes(self):
        for path in FILES:
            text = path.read_bytes().decode("ascii")
            self.assertTrue(all(sign == "\n" or " " <= sign <= "~" for sign in text), path)
            lines = text.splitlines()
            self.assertLessEqual(len(lines), 400, path)
            self.assertLessEqual(max(len(line) for line in lines), 120, path)
            self.assertIsNone(SHUT_WORDS.search(text), path)

    def test_functions_are_small_and_plain(self):
        for name, tree in trees():
            for node in ast.walk(tree):
                if isinstance(node, ast.FunctionDef):
                    self.assertLessEqual(node.end_lineno - node.lineno + 1, 40, (name, node.name))
                    self.assertIsNone(node.args.vararg, (name, node.name))
                    self.assertIsNone(node.args.kwarg, (name, node.name))
                    self.assertEqual(node.args.posonlyargs + node.decorator_list, [], (name, node.name))

    def test_shut_forms(self):
        for name, tree in trees():
            for node in ast.walk(tree):
                self.assertNotIsInstance(node, SHUT_NODES, name)
                if isinstance(node, ast.Constant):
                    self.assertNotIsInstance(node.value, (float, complex), name)
                if isinstance(node, (ast.For, ast.While)):
                    self.assertEqual(node.orelse, [], name)
                if isinstance(node, ast.Starred):
                    self.assertIsInstance(node.ctx, ast.Store, name)
                if isinstance(node, ast.Compare) and any(isinstance(sign, (ast.Is, ast.IsNot)) for sign in node.ops):
                    self.assertIsInstance(node.comparators[0], ast.Constant, name)

    def test_handlers_take_refusals_by_name(self):
        refusals = {node.name for name, tree in trees() if name == "errors.py" for node in tree.body
                    if isinstance(node, ast.ClassDef)}
        for name, tree in trees():
            for node in ast.walk(tree):
                if isinstance(node, ast.ExceptHandler):
                    self.assertIsInstance(node.type, ast.Name, name)
                    self.assertIn(node.type.id, refusals, name)
                if isinstance(node, ast.Raise) and node.exc is not None:
                    self.assertIsInstance(node.exc, ast.Call, name)
                    self.assertIn(node.exc.func.id, refusals, name)

    def test_names(self):
        for name, tree in trees():
            bound = bound_names(tree)
            for word in bound:
                self.assertTrue(re.fullmatch(r"[A-Za-z][A-Za-z0-9_]*|__init__", word), (name, word))
            self.assertEqual(bound & (OWN_NAMES | SHUT_NAMES), set(), name)
            for node in ast.walk(tree):
                if isinstance(node, ast.Name) and node.id not in bound:
                    self.assertIn(node.id, OWN_NAMES, name)

    def test_each_name_is_bound_once_at_a_files_top(self):
        for name, tree in trees():
            found = [alias.name for row in imports(tree) for alias in row.names]
            for node in tree.body:
                if isinstance(node, (ast.FunctionDef, ast.ClassDef)):
                    found.append(node.name)
                elif isinstance(node, ast.Assign):
                    found.extend(target.id for target in node.targets)
                else:
                    self.assertIsInstance(node, (ast.Expr, ast.ImportFrom), name)
            self.assertEqual(len(found), len(set(found)), name)

    def test_what_is_walked_is_walked_at_once(self):
        walks = ("list", "tuple", "dict", "sorted", "sum", "any", "all", "enumerate", "zip", "min", "max", "join")
        for name, tree in trees():
            at_once = []
            for node in ast.walk(tree):
                if isinstance(node, (ast.For, ast.comprehension)):
                    at_once.append(node.iter)
                elif isinstance(node, ast.Call) and called(node) in walks:
                    at_once.extend(node.args)
            for node in ast.walk(tree):
                if isinstance(node, ast.Call) and called(node) in ("range", "zip", "enumerate", "reversed", "items", "keys", "values"):
                    self.assertIn(node, at_once, (name, node.lineno))

    def test_methods(self):
        free = set(OWN_METHODS)
        for name, tree in trees():
            for node in ast.walk(tree):
                if isinstance(node, ast.ClassDef):
                    free.update(part.name for part in node.body if isinstance(part, ast.FunctionDef))
                elif isinstance(node, ast.Attribute) and isinstance(node.ctx, ast.Store):
                    free.add(node.attr)
        for name, tree in trees():
            for node in ast.walk(tree):
                if isinstance(node, ast.Attribute):
                    self.assertIn(node.attr, free, name)

    def test_methods_and_values_have_unlike_names(self):
        methods, values = set(), set()
        for name, tree in trees():
            for node in ast.walk(tree):
                if isinstance(node, ast.ClassDef):
                    methods.update(part.name for part in node.body if isinstance(part, ast.FunctionDef))
                elif isinstance(node, ast.Attribute) and isinstance(node.ctx, ast.Store):
                    values.add(node.attr)
                    self.assertIsInstance(node.value, ast.Name, (name, node.attr))
        self.assertEqual(methods & values, set())

    def test_locals_are_not_called_like_imports_or_classes(self):
        for name, tree in trees():
            shut = {alias.name for row in imports(tree) for alias in row.names}
            shut |= {node.name for node in tree.body if isinstance(node, ast.ClassDef)}
            for node in ast.walk(tree):
                if isinstance(node, ast.arg):
                    self.assertNotIn(node.arg, shut, name)
                elif isinstance(node, ast.Name) and isinstance(node.ctx, ast.Store):
                    self.assertNotIn(node.id, shut, name)

    def test_imports_come_from_the_defining_file_and_never_round(self):
        tops = {}
        draws = {}
        for name, tree in trees():
            module = "handedon." + name[:-3]
            tops[module] = {node.name for node in tree.body if isinstance(node, (ast.FunctionDef, ast.ClassDef))}
            tops[module] |= {target.id for node in tree.body if isinstance(node, ast.Assign) for target in node.targets}
            draws[module] = {row.module for row in imports(tree)}
            for row in imports(tree):
                self.assertIn(row, tree.body, name)
                self.assertEqual(row.level, 0, name)
        for name, tree in trees():
            for row in imports(tree):
                for alias in row.names:
                    self.assertIn(alias.name, tops[row.module], name)
                    self.assertIsNone(alias.asname, name)
        while draws:
            ready = [module for module in draws if not draws[module] & set(draws)]
            self.assertTrue(ready, draws)
            for module in ready:
                del draws[module]


if __name__ == "__main__":
    unittest.main()
