"""The package keeps to its part of the language: what of those rules can be read off the syntax."""

import ast
import re
import unittest
from pathlib import Path

PACKAGE = Path(__file__).resolve().parent.parent / "netduel"
FILES = sorted(PACKAGE.glob("*.py"))

STATEMENTS = (
    ast.Module, ast.FunctionDef, ast.ClassDef, ast.ImportFrom, ast.Assign, ast.AugAssign, ast.If, ast.While, ast.For,
    ast.Return, ast.Break, ast.Continue, ast.Pass, ast.Raise, ast.Try, ast.ExceptHandler, ast.Expr,
)
EXPRESSIONS = (
    ast.Constant, ast.Name, ast.Attribute, ast.Subscript, ast.Slice, ast.Call, ast.List, ast.Tuple, ast.Dict,
    ast.BinOp, ast.UnaryOp, ast.BoolOp, ast.Compare, ast.IfExp, ast.ListComp, ast.comprehension, ast.Lambda,
    ast.JoinedStr, ast.FormattedValue, ast.keyword, ast.arguments, ast.arg, ast.alias,
    ast.operator, ast.unaryop, ast.boolop, ast.cmpop, ast.expr_context,
)
BUILT_IN = set(
    "len range enumerate zip min max sum abs sorted reversed int str bool list tuple dict set frozenset isinstance ord "
    "repr any all divmod Exception ValueError TypeError KeyError IndexError LookupError ZeroDivisionError "
    "ArithmeticError OverflowError RuntimeError NotImplementedError AttributeError StopIteration".split())
METHODS_OF_VALUES = set(
    "append clear copy count endswith extend find get index insert isalnum isalpha isdigit islower isspace isupper "
    "items join keys ljust lower lstrip partition pop remove replace reverse rfind rjust rpartition rsplit rstrip "
    "setdefault split splitlines startswith strip update upper values zfill bit_length".split())
WORDS_OUT = (
    r"\b(type|typing|typing_extensions|enum|Enum|IntEnum|StrEnum|Flag|IntFlag|Generic|Protocol|ABC|ABCMeta|namedtuple|"
    r"NamedTuple|TypedDict|TYPE_CHECKING|abstractmethod)\b|dataclass|overload|contextmanager")
NAMES_OUT = set(
    "register mro elements open input version_info with_traceback add_note attrgetter breakpoint builtins compile "
    "copyright credits delattr dir eval exec exit gc getattr globals hasattr help id importlib license locals "
    "methodcaller os quit setattr super type vars sys hash next map filter format property print chr".split())
VALUES_OF_PYTHON = {name for kind in (str, int, list, dict, set, bytes, tuple) for name in dir(kind)}
VALUES_FREE_ALL_THE_SAME = set("count index title find get join lower upper split strip copy add".split())


def trees():
    return [(path, ast.parse(path.read_text(encoding="utf-8"))) for path in FILES]


def nodes(tree, *kinds):
    return [node for node in ast.walk(tree) if isinstance(node, kinds)]


def bound_names(function):
    """The parameters and locals of a function."""
    names = {arg.arg for arg in nodes(function.args, ast.arg)}
    return names | {node.id for node in nodes(function, ast.Name) if isinstance(node.ctx, ast.Store)}


def top_names(tree):
    names = []
    for node in tree.body:
        if isinstance(node, (ast.FunctionDef, ast.ClassDef)):
            names.append(node.name)
        elif isinstance(node, ast.Assign):
            names.extend(target.id for target in node.targets)
        elif isinstance(node, ast.ImportFrom):
            names.extend(alias.name for alias in node.names)
    return names


def methods(tree):
    return {node.name for kind in nodes(tree, ast.ClassDef) for node in kind.body if isinstance(node, ast.FunctionDef)}


def stored_values(tree):
    return {node.attr for node in nodes(tree, ast.Attribute) if isinstance(node.ctx, ast.Store)}


class Language(unittest.TestCase):
    def test_the_package_is_there_and_holds_nothing_else(self):
        self.assertIn(PACKAGE / "__init__.py", FILES)
        self.assertIn(PACKAGE / "desk.py", FILES)
        others = [path.name for path in PACKAGE.iterdir() if path not in FILES and path.name != "__pycache__"]
        self.assertEqual(others, [])
        for path in FILES:
            self.assertRegex(path.name, r"\A(__init__|[a-z][a-z0-9_]*)\.py\Z")

    def test_signs_and_sizes(self):
        for path, tree in trees():
            text = path.read_text(encoding="utf-8")
            self.assertRegex(text, r"\A[ -~\n]*\Z", path)
            self.assertIsNone(re.search(WORDS_OUT, text), path)
            self.assertLessEqual(text.count("\n"), 400, path)
            self.assertLessEqual(max(len(row) for row in text.split("\n")), 120, path)
            for node in nodes(tree, ast.FunctionDef):
                self.assertLessEqual(node.end_lineno - node.lineno + 1, 40, node.name)

    def test_statements_and_expressions(self):
        for path, tree in trees():
            for node in ast.walk(tree):
                where = f"{path.name}:{getattr(node, 'lineno', 0)}"
                self.assertIsInstance(node, STATEMENTS + EXPRESSIONS, where)
                self.assertNotIsInstance(node, (ast.Div, ast.MatMult), where)
                if isinstance(node, ast.Constant):
                    self.assertIsInstance(node.value, (int, str, type(None)), where)
                if isinstance(node, ast.Assign):
                    self.assertEqual(len(node.targets), 1, where)
                    self.assertNotIsInstance(node.targets[0], (ast.Tuple, ast.List), where)
                if isinstance(node, (ast.For, ast.While)):
                    self.assertEqual(node.orelse, [], where)
                if isinstance(node, (ast.FunctionDef, ast.ClassDef)):
                    self.assertEqual(node.decorator_list, [], where)
                if isinstance(node, ast.arguments):
                    self.assertEqual((node.vararg, node.kwarg, node.kwonlyargs), (None, None, []), where)
                if isinstance(node, ast.Compare) and isinstance(node.ops[0], (ast.Is, ast.IsNot)):
                    self.assertIn(getattr(node.comparators[0], "value", 0), (None, True, False), where)

    def test_imports(self):
        drawn = {}
        for path, tree in trees():
            drawn[path.stem] = []
            for node in nodes(tree, ast.ImportFrom):
                self.assertEqual((node.level, node.module.split(".")[0], node.module.count(".")), (0, "netduel", 1))
                source = PACKAGE / (node.module.split(".")[1] + ".py")
                own = [one.name if isinstance(one, (ast.FunctionDef, ast.ClassDef)) else one.targets[0].id
                       for one in ast.parse(source.read_text()).body
                       if isinstance(one, (ast.FunctionDef, ast.ClassDef, ast.Assign))]
                for alias in node.names:
                    self.assertIn(alias.name, own, f"{path.name} draws {alias.name}")
                drawn[path.stem].append(source.stem)
        while drawn:
            free = [name for name in drawn if not any(other in drawn for other in drawn[name])]
            self.assertNotEqual(free, [], f"files draw from one another: {drawn}")
            drawn = {name: others for name, others in drawn.items() if name not in free}

    def test_names(self):
        for path, tree in trees():
            top = top_names(tree)
            self.assertEqual(len(top), len(set(top)), path)
            outside = {name for name in top if name[0].isupper() and not name.isupper()}
            outside |= {alias.name for node in nodes(tree, ast.ImportFrom) for alias in node.names}
            for function in nodes(tree, ast.FunctionDef):
                bound = bound_names(function)
                self.assertEqual(bound & (outside | BUILT_IN | NAMES_OUT), set(), f"{path.name} {function.name}")
                for node in nodes(function, ast.Name):
                    self.assertIn(node.id, bound | set(top) | BUILT_IN, f"{path.name}:{node.lineno}")
                if function.name != "__init__":
                    self.assertRegex(function.name, r"\A[A-Za-z][A-Za-z0-9_]*\Z")
            self.assertEqual(set(top) & (BUILT_IN | NAMES_OUT), set(), path)

    def test_methods_and_values_of_objects(self):
        own_methods, own_values = set(), set()
        for path, tree in trees():
            own_methods |= methods(tree)
            own_values |= stored_values(tree)
        self.assertEqual(own_methods & own_values, set())
        self.assertEqual(own_values & (VALUES_OF_PYTHON - VALUES_FREE_ALL_THE_SAME), set())
        self.assertEqual((own_methods - {"__init__"}) & (VALUES_OF_PYTHON - METHODS_OF_VALUES - {"add"}), set())
        for path, tree in trees():
            for node in nodes(tree, ast.Call):
                if isinstance(node.func, ast.Attribute):
                    self.assertIn(node.func.attr, own_methods | METHODS_OF_VALUES, f"{path.name}:{node.lineno}")


if __name__ == "__main__":
    unittest.main()
