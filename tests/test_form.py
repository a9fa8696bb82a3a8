"""The form of the package's files, as far as a short look can tell."""

import ast
import builtins
import pathlib
import re
import unittest

PACKAGE = pathlib.Path(__file__).resolve().parent.parent / "learnswitch"
FILES = sorted(PACKAGE.glob("*.py"))

NODES = """
    Module Expr FunctionDef arguments arg ClassDef Return Assign AugAssign For While If Raise Try ExceptHandler Pass
    Break Continue ImportFrom alias Name Load Store Attribute Subscript Slice Call keyword Constant List Tuple Dict
    BoolOp And Or UnaryOp Not USub Invert BinOp Add Sub Mult FloorDiv Mod Pow LShift RShift BitOr BitAnd BitXor
    Compare Eq NotEq Lt LtE Gt GtE In NotIn Is IsNot IfExp Lambda ListComp comprehension JoinedStr FormattedValue Set
""".split()
OWN_NAMES = """
    len range enumerate zip min max sum abs sorted reversed int str bool list tuple dict set frozenset isinstance ord
    repr any all divmod Exception ValueError TypeError KeyError IndexError LookupError ZeroDivisionError
    ArithmeticError OverflowError RuntimeError NotImplementedError AttributeError StopIteration
""".split()
METHODS = """
    append clear copy count endswith extend find get index insert isalnum isalpha isdigit islower isspace isupper items
    join keys ljust lower lstrip partition pop remove replace reverse rfind rjust rpartition rsplit rstrip setdefault
    split splitlines startswith strip update upper values zfill bit_length
""".split()
BARRED_WORDS = """
    type typing typing_extensions enum Enum IntEnum StrEnum Flag IntFlag Generic Protocol ABC ABCMeta namedtuple
    NamedTuple TypedDict TYPE_CHECKING abstractmethod
""".split()
BARRED_PARTS = ("dataclass", "overload", "contextmanager")
BARRED_NAMES = "register mro elements open input version_info with_traceback add_note format format_map".split()
UNUSED_NAMES = """
    attrgetter breakpoint builtins compile copyright credits delattr dir eval exec exit gc getattr globals hasattr help
    id importlib license locals methodcaller os quit setattr super sys vars __name__
""".split()


def trees():
    return [(path, ast.parse(path.read_text(encoding="utf-8"))) for path in FILES]


def nodes(*kinds):
    """Each node of these kinds in the package, with where it stands."""
    return [(f"{path.name}:{node.lineno}", node) for path, tree in trees()
            for node in ast.walk(tree) if isinstance(node, kinds)]


def bound_names(tree):
    """The names that the file's defs bind as parameters and locals."""
    names = [node.arg for node in ast.walk(tree) if isinstance(node, ast.arg)]
    for node in ast.walk(tree):
        if isinstance(node, ast.Name) and isinstance(node.ctx, ast.Store):
            names.append(node.id)
    return names


def imported(tree):
    return [(node.module, alias.name) for node in tree.body if isinstance(node, ast.ImportFrom)
            for alias in node.names]


def top_names(tree):
    names = [node.name for node in tree.body if isinstance(node, (ast.FunctionDef, ast.ClassDef))]
    names += [node.targets[0].id for node in tree.body if isinstance(node, ast.Assign)]
    return names


class Form(unittest.TestCase):

    def test_files(self):
        others = [path.name for path in PACKAGE.iterdir() if path not in FILES and path.name != "__pycache__"]
        self.assertEqual(others, [])
        for path in FILES:
            self.assertRegex(path.name, r"^(__init__|[a-z][a-z0-9_]*)\.py$")
            self.assertTrue(path.stem == "__init__" or not hasattr(builtins, path.stem), path.name)

    def test_signs_and_sizes(self):
        for path in FILES:
            text = path.read_text(encoding="utf-8")
            self.assertRegex(text, r"\A[ -~\n]*\Z", path.name)
            self.assertLessEqual(len(text.split("\n")), 400, path.name)
            self.assertLessEqual(max(map(len, text.split("\n"))), 120, path.name)
        for where, node in nodes(ast.FunctionDef):
            self.assertLessEqual(node.end_lineno - node.lineno + 1, 40, where)

    def test_words(self):
        for path in FILES:
            text = path.read_text(encoding="utf-8")
            self.assertEqual([word for word in re.findall(r"\w+", text) if word in BARRED_WORDS], [], path.name)
            self.assertEqual([part for part in BARRED_PARTS if part in text], [], path.name)

    def test_statements_and_expressions(self):
        for path, tree in trees():
            for node in ast.walk(tree):
                self.assertIn(node.__class__.__name__, NODES, f"{path.name}:{getattr(node, 'lineno', 0)}")
        for where, node in nodes(ast.Assign):
            self.assertEqual([target.__class__ for target in node.targets].count(ast.Tuple), 0, where)
            self.assertEqual(len(node.targets), 1, where)
        for where, node in nodes(ast.For, ast.While):
            self.assertEqual(node.orelse, [], where)
        for where, node in nodes(ast.FunctionDef, ast.ClassDef):
            self.assertEqual(node.decorator_list, [], where)
        for where, node in nodes(ast.Constant):
            self.assertIn(node.value.__class__, (int, str, bool, None.__class__), where)

    def test_the_top_of_each_file(self):
        for path, tree in trees():
            self.assertIsNotNone(ast.get_docstring(tree), path.name)
            for node in tree.body[1:]:
                where = f"{path.name}:{node.lineno}"
                self.assertIsInstance(node, (ast.ImportFrom, ast.FunctionDef, ast.ClassDef, ast.Assign), where)
                if isinstance(node, ast.Assign):
                    value = ast.literal_eval(node.value)
                    for number in value if isinstance(value, tuple) else (value,):
                        self.assertIs(number.__class__, int, where)

    def test_classes_and_parameters(self):
        for where, node in nodes(ast.ClassDef):
            self.assertEqual(node.keywords + node.bases, [], where)
            self.assertIsNotNone(ast.get_docstring(node), where)
            self.assertEqual({part.__class__ for part in node.body[1:]}, {ast.FunctionDef}, where)
        for where, node in nodes(ast.FunctionDef):
            given = node.args
            self.assertIsNone(given.vararg or given.kwarg or node.returns, where)
            self.assertEqual(given.kwonlyargs + given.posonlyargs + given.defaults, [], where)
            self.assertEqual([part for part in given.args if part.annotation], [], where)

    def test_numbers_and_texts(self):
        for where, node in nodes(ast.BinOp):
            self.assertNotIsInstance(node.op, ast.Pow, where)
        for where, node in nodes(ast.Constant):
            if isinstance(node.value, str):
                self.assertNotIn("%", node.value, where)
                self.assertNotIn("\\", node.value, where)

    def test_names_that_are_not_used(self):
        for where, node in nodes(ast.Name):
            self.assertNotIn(node.id, UNUSED_NAMES, where)
        for where, node in nodes(ast.Call):
            self.assertEqual(node.keywords, [], where)

    def test_is_stands_beside_plain_values_alone(self):
        for where, node in nodes(ast.Compare):
            if any(isinstance(sign, (ast.Is, ast.IsNot)) for sign in node.ops):
                self.assertIsInstance(node.comparators[0], ast.Constant, where)

    def test_imports(self):
        drawn = {}
        defined = {f"learnswitch.{path.stem}": top_names(tree) for path, tree in trees()}
        for path, tree in trees():
            drawn[f"learnswitch.{path.stem}"] = [module for module, name in imported(tree)]
            for module, name in imported(tree):
                self.assertIn(name, defined[module], path.name)
        while drawn:
            free = [module for module in drawn if not any(other in drawn for other in drawn[module])]
            self.assertTrue(free, f"these draw from one another: {sorted(drawn)}")
            drawn = {module: drawn[module] for module in drawn if module not in free}

    def test_names(self):
        for path, tree in trees():
            tops = top_names(tree)
            others = [name for module, name in imported(tree)]
            self.assertEqual(len(tops + others), len(set(tops + others)), path.name)
            taken = others + [node.name for node in tree.body if isinstance(node, ast.ClassDef)]
            for name in bound_names(tree):
                self.assertNotIn(name, taken, path.name)
                self.assertFalse(hasattr(builtins, name), f"{path.name}: {name}")
            for name in tops + bound_names(tree):
                self.assertRegex(name, r"^[A-Za-z]\w*$", path.name)
                self.assertNotIn(name, BARRED_NAMES, path.name)

    def test_pythons_own_names_and_methods(self):
        for where, node in nodes(ast.Name):
            if hasattr(builtins, node.id):
                self.assertIn(node.id, OWN_NAMES, where)
        for where, node in nodes(ast.Call):
            if isinstance(node.func, ast.Attribute):
                self.assertIn(node.func.attr, METHODS, where)

    def test_views_are_walked_on_the_spot(self):
        allowed = walked_places()
        for path, tree in trees():
            for node in ast.walk(tree):
                if is_view(node):
                    self.assertIn((path.name, node.lineno, node.col_offset), allowed)

    def test_attributes(self):
        barred = set(BARRED_NAMES) | {"items", "keys", "values", "args", "sort", "encode"}
        for where, node in nodes(ast.Attribute):
            if isinstance(node.ctx, ast.Store):
                self.assertNotIn(node.attr, barred, where)
                for kind in (str, int, list, dict, set, bytes):
                    self.assertFalse(hasattr(kind, node.attr), where)


def is_view(node):
    if not isinstance(node, ast.Call):
        return False
    if isinstance(node.func, ast.Attribute):
        return node.func.attr in ("items", "keys", "values")
    return isinstance(node.func, ast.Name) and node.func.id in ("zip", "enumerate", "reversed", "range")


def walked_places():
    """The places at which a view may stand, as (file, line, column)."""
    found = []
    for path, tree in trees():
        for node in ast.walk(tree):
            spot = None
            if isinstance(node, (ast.For, ast.comprehension)):
                spot = node.iter
            elif isinstance(node, ast.Call) and isinstance(node.func, ast.Name) and node.args:
                if node.func.id in "list tuple dict sorted sum any all enumerate zip min max".split():
                    spot = node.args[0]
            if spot is not None:
                found.append((path.name, spot.lineno, spot.col_offset))
    return found


if __name__ == "__main__":
    unittest.main()
