"""Whether the package's files keep to the part of Python that the program is written in, as far as is seen by form here."""

import ast
import builtins
import pathlib
import re
import unittest

PACKAGE = pathlib.Path(__file__).resolve().parent.parent / "copiedhouse"
FILES = sorted(path for path in PACKAGE.rglob("*") if path.is_file() and "__pycache__" not in path.parts)

BUILTINS = set(
    "len range enumerate zip min max sum abs sorted reversed int str bool list tuple dict set frozenset isinstance "
    "ord repr any all divmod Exception ValueError TypeError KeyError IndexError LookupError ZeroDivisionError "
    "ArithmeticError OverflowError RuntimeError NotImplementedError AttributeError StopIteration".split()
)
METHODS = set(
    "append clear copy count endswith extend find get index insert isalnum isalpha isdigit islower isspace isupper "
    "items join keys ljust lower lstrip partition pop remove replace reverse rfind rjust rpartition rsplit rstrip "
    "setdefault split splitlines startswith strip update upper values zfill bit_length".split()
)
DUNDERS = set("__init__ __eq__ __repr__ __str__ __len__".split())
BARRED_NAMES = set(
    "register mro elements open input version_info with_traceback add_note format format_map attrgetter breakpoint "
    "builtins compile copyright credits delattr dir eval exec exit gc getattr globals hasattr help id importlib "
    "license locals methodcaller os quit setattr super type vars sys chr print".split()
)
BARRED_WORDS = re.compile(
    r"\b(type|typing|typing_extensions|enum|Enum|IntEnum|StrEnum|Flag|IntFlag|Generic|Protocol|ABC|ABCMeta|namedtuple"
    r"|NamedTuple|TypedDict|TYPE_CHECKING|abstractmethod)\b|dataclass|overload|contextmanager"
)
NODES = tuple(
    getattr(ast, name)
    for name in (
        "Module ImportFrom alias FunctionDef arguments arg ClassDef Assign AugAssign If While For Return Break Continue "
        "Pass Raise Try ExceptHandler Expr Lambda Constant List Tuple Dict Set BinOp UnaryOp BoolOp Compare IfExp Call "
        "keyword Attribute Subscript Slice ListComp comprehension JoinedStr FormattedValue Name Load Store operator "
        "unaryop boolop cmpop"
    ).split()
)
BARRED_OPERATORS = (ast.Div, ast.MatMult)


def tree_of(path):
    return ast.parse(path.read_text(encoding="utf-8"))


def module_of(path):
    parts = list(path.relative_to(PACKAGE.parent).with_suffix("").parts)
    return ".".join(parts[:-1] if parts[-1] == "__init__" else parts)


def bound_at_top(tree):
    names = []
    for node in tree.body:
        if isinstance(node, (ast.FunctionDef, ast.ClassDef)):
            names.append(node.name)
        elif isinstance(node, ast.Assign):
            names.extend(target.id for target in node.targets)
        elif isinstance(node, ast.ImportFrom):
            names.extend(alias.asname or alias.name for alias in node.names)
    return names


def is_docstring(node):
    return isinstance(node, ast.Expr) and isinstance(node.value, ast.Constant) and isinstance(node.value.value, str)


class Language(unittest.TestCase):
    def each(self, *kinds):
        for path in FILES:
            for node in ast.walk(tree_of(path)):
                if isinstance(node, kinds):
                    yield f"{path.name}:{getattr(node, 'lineno', 0)}", node

    def test_files_and_signs(self):
        self.assertIn(PACKAGE / "__init__.py", FILES)
        for path in FILES:
            self.assertRegex(path.name, r"^([a-z0-9][a-z0-9_]*|__init__|__main__)\.py$")
            self.assertFalse(hasattr(builtins, path.stem) and path.stem[0] != "_", path)
            text = path.read_text(encoding="utf-8")
            for sign in set(text):
                self.assertTrue(sign == "\n" or " " <= sign <= "~", (path, sign))
            self.assertIsNone(BARRED_WORDS.search(text), path)

    def test_sizes(self):
        for path in FILES:
            lines = path.read_text(encoding="utf-8").split("\n")
            self.assertLessEqual(len(lines), 400, path)
            self.assertLessEqual(max(len(line) for line in lines), 120, path)
        for place, node in self.each(ast.FunctionDef):
            self.assertLessEqual(node.end_lineno - node.lineno + 1, 40, place)

    def test_the_top_of_each_file(self):
        for path in FILES:
            tree = tree_of(path)
            for k, node in enumerate(tree.body):
                allowed = isinstance(node, (ast.ImportFrom, ast.FunctionDef, ast.ClassDef, ast.Assign))
                self.assertTrue(allowed or (k == 0 and is_docstring(node)), (path, node.lineno))
                if isinstance(node, ast.Assign):
                    ast.literal_eval(node.value)
            names = bound_at_top(tree)
            self.assertEqual(len(names), len(set(names)), path)

    def test_imports(self):
        trees = {module_of(path): tree_of(path) for path in FILES}
        drawn = {module: set() for module in trees}
        for module, tree in trees.items():
            for node in ast.walk(tree):
                if isinstance(node, ast.ImportFrom):
                    self.assertEqual(node.level, 0)
                    self.assertIn(node.module, trees)
                    for alias in node.names:
                        source = trees[node.module]
                        defined = [n for n in source.body if not isinstance(n, ast.ImportFrom)]
                        self.assertIn(alias.name, bound_at_top(ast.Module(defined, [])), module)
                    drawn[module].add(node.module)
        while drawn:
            free = [module for module in drawn if not drawn[module] & set(drawn)]
            self.assertTrue(free, "files draw from one another")
            for module in free:
                drawn.pop(module)

    def test_statements_and_expressions(self):
        for place, node in self.each(ast.AST):
            self.assertIsInstance(node, NODES, place)
            self.assertNotIsInstance(node, BARRED_OPERATORS, place)
            if isinstance(node, ast.Assign):
                self.assertEqual(len(node.targets), 1, place)
            if isinstance(node, (ast.For, ast.While)):
                self.assertEqual(node.orelse, [], place)
            if isinstance(node, ast.Try):
                self.assertEqual(node.finalbody, [], place)
            if isinstance(node, ast.ListComp):
                self.assertEqual(len(node.generators), 1, place)
                self.assertLessEqual(len(node.generators[0].ifs), 1, place)
            if isinstance(node, ast.FormattedValue):
                self.assertIsInstance(node.value, ast.Name, place)
                self.assertIsNone(node.format_spec, place)
            if isinstance(node, ast.Expr):
                self.assertTrue(isinstance(node.value, ast.Call) or is_docstring(node), place)
            if isinstance(node, ast.ExceptHandler):
                self.assertIsNotNone(node.type, place)

    def test_values(self):
        for place, node in self.each(ast.Constant):
            self.assertIn(type(node.value), (int, str, bool, type(None)), place)
            if isinstance(node.value, str):
                self.assertNotIn("%", node.value, place)
        for place, node in self.each(ast.Compare):
            for operator, right in zip(node.ops, node.comparators):
                if isinstance(operator, (ast.Is, ast.IsNot)):
                    self.assertIn(getattr(right, "value", 0), (None, True, False), place)
        for place, node in self.each(ast.BinOp):
            if isinstance(node.op, ast.Pow):
                self.assertIsInstance(node.right, ast.Constant, place)

    def test_functions_and_classes(self):
        for place, node in self.each(ast.FunctionDef, ast.ClassDef):
            self.assertEqual(node.decorator_list, [], place)
        for place, node in self.each(ast.arguments):
            self.assertIsNone(node.vararg, place)
            self.assertIsNone(node.kwarg, place)
            self.assertEqual(node.kwonlyargs + node.posonlyargs, [], place)
        for place, node in self.each(ast.ClassDef):
            self.assertLessEqual(len(node.bases), 1, place)
            for inner in node.body:
                self.assertTrue(isinstance(inner, (ast.FunctionDef, ast.Pass)) or is_docstring(inner), place)

    def test_names(self):
        for path in FILES:
            tree = tree_of(path)
            bound = set(bound_at_top(tree))
            kept = {node.name for node in tree.body if isinstance(node, ast.ClassDef)}
            kept.update(alias.name for node in tree.body if isinstance(node, ast.ImportFrom) for alias in node.names)
            for node in ast.walk(tree):
                if isinstance(node, ast.arg):
                    bound.add(node.arg)
                if isinstance(node, ast.Name) and isinstance(node.ctx, ast.Store):
                    bound.add(node.id)
                if isinstance(node, ast.FunctionDef):
                    bound.add(node.name)
            for name in bound - DUNDERS:
                self.assertRegex(name, r"^[A-Za-z][A-Za-z0-9_]*$", path)
            for node in ast.walk(tree):
                if isinstance(node, ast.arg) or isinstance(node, ast.Name) and isinstance(node.ctx, ast.Store):
                    name = node.arg if isinstance(node, ast.arg) else node.id
                    self.assertFalse(hasattr(builtins, name) or name in kept, (path, node.lineno, name))
                if isinstance(node, ast.Name):
                    self.assertIn(node.id, bound | BUILTINS, (path, node.lineno))
                    self.assertNotIn(node.id, BARRED_NAMES, (path, node.lineno))

    def test_methods(self):
        own = set()
        values = set()
        for _, node in self.each(ast.ClassDef):
            own.update(inner.name for inner in node.body if isinstance(inner, ast.FunctionDef))
        for place, node in self.each(ast.Call):
            if isinstance(node.func, ast.Attribute):
                self.assertIn(node.func.attr, METHODS | own, place)
        for place, node in self.each(ast.Attribute):
            self.assertNotIn(node.attr, BARRED_NAMES, place)
            if isinstance(node.ctx, ast.Store):
                values.add(node.attr)
        self.assertEqual(own & values, set())


if __name__ == "__main__":
    unittest.main()
