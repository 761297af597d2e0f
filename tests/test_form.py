"""The package's own files keep to the part of Python that they may use."""

import ast
import builtins
import re
import unittest
from pathlib import Path

PACKAGE = Path(__file__).resolve().parent.parent / "ringmeet"
FILES = sorted(PACKAGE.glob("*.py"))

BUILTINS = set("""len range enumerate zip min max sum abs sorted reversed int str bool bytes list tuple dict set
    frozenset isinstance ord repr any all divmod Exception ValueError TypeError KeyError IndexError LookupError
    ZeroDivisionError ArithmeticError OverflowError RuntimeError NotImplementedError AttributeError StopIteration
    object""".split())

METHODS = set("""append clear copy count endswith extend find get index insert isalnum isalpha isdigit islower isspace
    isupper items join keys ljust lower lstrip partition pop remove replace reverse rfind rjust rpartition rsplit rstrip
    setdefault split splitlines startswith strip update upper values zfill bit_length add discard sort isascii
    isdecimal removeprefix removesuffix rindex __init__""".split())

NODES = (ast.Module, ast.FunctionDef, ast.ClassDef, ast.Return, ast.Assign, ast.AugAssign, ast.For, ast.While, ast.If,
         ast.Raise, ast.Try, ast.Assert, ast.Delete, ast.ImportFrom, ast.Expr, ast.Pass, ast.Break, ast.Continue,
         ast.BoolOp, ast.BinOp, ast.UnaryOp, ast.Lambda, ast.IfExp, ast.Dict, ast.Set, ast.ListComp, ast.SetComp,
         ast.DictComp, ast.Compare, ast.Call, ast.JoinedStr, ast.FormattedValue, ast.Constant, ast.Attribute,
         ast.Subscript, ast.Name, ast.List, ast.Tuple, ast.Slice, ast.comprehension, ast.ExceptHandler, ast.arguments,
         ast.arg, ast.keyword, ast.alias, ast.expr_context, ast.boolop, ast.operator, ast.unaryop, ast.cmpop)

WORDS = re.compile(r"\b(type|typing|typing_extensions|enum|Enum|IntEnum|StrEnum|Flag|IntFlag|Generic|Protocol|ABC|"
                   r"ABCMeta|namedtuple|NamedTuple|TypedDict|TYPE_CHECKING|abstractmethod)\b|"
                   r"dataclass|overload|contextmanager")

UNUSED = set("""register mro elements open input version_info with_traceback add_note attrgetter breakpoint builtins
    compile copyright credits delattr dir eval exec exit gc getattr globals hasattr help id importlib license locals
    methodcaller os quit setattr super type vars sys chr print""".split())


def trees():
    return [(path, ast.parse(path.read_text())) for path in FILES]


def nodes(kind):
    return [(path.name, node) for path, tree in trees() for node in ast.walk(tree) if isinstance(node, kind)]


def bound_names(tree):
    """All names that a file binds within its defs, and the names of defs and classes."""
    for node in ast.walk(tree):
        if isinstance(node, (ast.FunctionDef, ast.ClassDef)):
            yield node.name
        elif isinstance(node, ast.arg):
            yield node.arg
        elif isinstance(node, ast.Name) and not isinstance(node.ctx, ast.Load):
            yield node.id
        elif isinstance(node, ast.ExceptHandler) and node.name:
            yield node.name


def names_at_top(tree):
    for node in tree.body:
        if isinstance(node, ast.ImportFrom):
            yield from (alias.asname or alias.name for alias in node.names)
        elif isinstance(node, (ast.FunctionDef, ast.ClassDef)):
            yield node.name
        elif isinstance(node, ast.Assign):
            yield from (target.id for target in node.targets)


class Files(unittest.TestCase):
    def test_only_python_files_lie_in_the_package(self):
        others = [path.name for path in PACKAGE.iterdir() if path not in FILES and path.name != "__pycache__"]
        self.assertEqual(others, [])
        self.assertIn(PACKAGE / "__init__.py", FILES)
        for path in FILES:
            self.assertRegex(path.name, r"^([a-z][a-z0-9_]*|__init__)\.py$")

    def test_sizes_and_signs(self):
        for path in FILES:
            text = path.read_text()
            self.assertRegex(text, r"\A[ -~\n]*\Z")
            self.assertLessEqual(len(text.splitlines()), 400, path)
            self.assertLessEqual(max(map(len, text.splitlines())), 120, path)
            self.assertNotRegex(text, WORDS)

    def test_functions_are_small(self):
        for name, node in nodes(ast.FunctionDef):
            self.assertLessEqual(node.end_lineno - node.lineno + 1, 40, (name, node.name))

    def test_all_is_told_what_it_is_for(self):
        for path, tree in trees():
            self.assertTrue(ast.get_docstring(tree), path)
        for name, node in nodes((ast.FunctionDef, ast.ClassDef)):
            self.assertTrue(node.name == "__init__" or ast.get_docstring(node), (name, node.name))


class Code(unittest.TestCase):
    def test_only_known_statements_and_expressions(self):
        for name, node in nodes(ast.AST):
            self.assertIsInstance(node, NODES, (name, getattr(node, "lineno", None)))
            self.assertNotIsInstance(node, (ast.Div, ast.MatMult), name)
            self.assertFalse(getattr(node, "decorator_list", None), name)
            self.assertFalse(isinstance(node, (ast.For, ast.While)) and node.orelse, name)
            self.assertFalse(isinstance(node, ast.Constant) and isinstance(node.value, (float, complex)), name)

    def test_only_plain_things_at_the_top(self):
        for path, tree in trees():
            for node in tree.body:
                plain = (ast.ImportFrom, ast.FunctionDef, ast.ClassDef, ast.Assign)
                docstring = isinstance(node, ast.Expr) and node is tree.body[0]
                self.assertTrue(docstring or isinstance(node, plain), (path, node.lineno))
            names = list(names_at_top(tree))
            self.assertEqual(len(names), len(set(names)), path)

    def test_imports(self):
        drawn = {}
        for path, tree in trees():
            rows = [node for node in ast.walk(tree) if isinstance(node, ast.ImportFrom)]
            for row in rows:
                self.assertIn(row, tree.body)
                self.assertEqual(row.level, 0)
                self.assertRegex(row.module, r"^ringmeet\.[a-z]+$")
                source = ast.parse((PACKAGE / f"{row.module.split('.')[1]}.py").read_text())
                own = [node for node in source.body if not isinstance(node, ast.ImportFrom)]
                for alias in row.names:
                    self.assertIn(alias.name, list(names_at_top(ast.Module(own, []))))
            drawn[path.stem] = {row.module.split(".")[1] for row in rows}
        while drawn:
            ends = [stem for stem in drawn if not drawn[stem] & set(drawn)]
            self.assertTrue(ends, "files draw from one another")
            for stem in ends:
                del drawn[stem]

    def test_names(self):
        for path, tree in trees():
            for name in bound_names(tree):
                self.assertRegex(name, r"^([A-Za-z][A-Za-z0-9_]*|__(init|eq|repr|str|len)__)$", path)
                self.assertTrue(name.startswith("__") or not hasattr(builtins, name), (path, name))
                self.assertNotIn(name, UNUSED, path)

    def test_locals_are_not_called_like_imports_or_classes(self):
        for path, tree in trees():
            taken = [name for node in tree.body if isinstance(node, (ast.ImportFrom, ast.ClassDef))
                     for name in names_at_top(ast.Module([node], []))]
            for part in tree.body:
                if isinstance(part, ast.FunctionDef):
                    self.assertFalse(set(bound_names(part)) & set(taken), (path, part.name))

    def test_only_known_builtins_are_asked(self):
        for name, node in nodes(ast.Name):
            if hasattr(builtins, node.id):
                self.assertIn(node.id, BUILTINS, name)
            self.assertNotIn(node.id, UNUSED, name)

    def test_attributes(self):
        given = {node.attr for name, node in nodes(ast.Attribute) if isinstance(node.ctx, ast.Store)}
        own = {node.name for name, node in nodes(ast.FunctionDef)}
        for name, node in nodes(ast.Attribute):
            self.assertIn(node.attr, METHODS | given | own, name)

    def test_no_name_is_a_method_and_a_value(self):
        given = {node.attr for name, node in nodes(ast.Attribute) if isinstance(node.ctx, ast.Store)}
        parts = [part for name, node in nodes(ast.ClassDef) for part in node.body]
        own = {part.name for part in parts if isinstance(part, ast.FunctionDef)}
        self.assertEqual(given & own, set())
        self.assertEqual(given & METHODS, set())

    def test_texts(self):
        for name, node in nodes(ast.Constant):
            if isinstance(node.value, str):
                self.assertRegex(node.value, r"\A[ -$&-~\n]*\Z", name)

    def test_is_stands_beside_none_true_and_false(self):
        for name, node in nodes(ast.Compare):
            for operator, right in zip(node.ops, node.comparators):
                if isinstance(operator, (ast.Is, ast.IsNot)):
                    self.assertIsInstance(right, ast.Constant, name)
                    self.assertIn(right.value, (None, True, False), name)

    def test_parameters_are_plain(self):
        for name, node in nodes(ast.arguments):
            self.assertEqual((node.posonlyargs, node.vararg, node.kwarg), ([], None, None), name)

    def test_classes_hold_methods_alone(self):
        for name, node in nodes(ast.ClassDef):
            self.assertLessEqual(len(node.bases), 1, name)
            for part in node.body[1:]:
                self.assertIsInstance(part, ast.FunctionDef, name)


if __name__ == "__main__":
    unittest.main()
