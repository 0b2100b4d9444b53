"""The package keeps to LANGUAGE.md, as far as its rules can be seen in the text of a file."""

import ast
import builtins
import pathlib
import re
import unittest

PACKAGE = pathlib.Path(__file__).resolve().parent.parent / "nearland"

# L6 and L7: what may stand in a file; L4's annotations are best none (L21).
NODES = set("""
    Module FunctionDef ClassDef arguments arg Lambda ImportFrom alias
    Assign AugAssign If While For Return Break Continue Pass Raise Try ExceptHandler Expr
    BoolOp BinOp UnaryOp IfExp Dict Set ListComp comprehension Compare Call JoinedStr FormattedValue
    Constant Attribute Subscript Name List Tuple Slice Load Store keyword
    And Or Not Invert USub UAdd Add Sub Mult FloorDiv Mod Pow LShift RShift BitOr BitXor BitAnd
    Eq NotEq Lt LtE Gt GtE Is IsNot In NotIn
""".split())

# L8, less chr (L27) and print (which __main__.py alone has).
PYTHONS_OWN = set("""
    len range enumerate zip min max sum abs sorted reversed int str bool list tuple dict set frozenset
    isinstance ord repr any all divmod Exception ValueError TypeError KeyError IndexError LookupError
    ZeroDivisionError ArithmeticError OverflowError RuntimeError NotImplementedError AttributeError StopIteration
""".split())

# L25.
METHODS = set("""
    append clear copy count endswith extend find get index insert isalnum isalpha isdigit islower isspace
    isupper items join keys ljust lower lstrip partition pop remove replace reverse rfind rjust rpartition
    rsplit rstrip setdefault split splitlines startswith strip update upper values zfill bit_length
""".split())

# L17.
WORDS = re.compile(
    r"\b(type|typing|typing_extensions|enum|Enum|IntEnum|StrEnum|Flag|IntFlag|Generic|Protocol|ABC|ABCMeta"
    r"|namedtuple|NamedTuple|TypedDict|TYPE_CHECKING|abstractmethod)\b|dataclass|overload|contextmanager"
)
NAMES_OUT = set("""
    register mro elements open input version_info with_traceback add_note attrgetter breakpoint builtins compile
    copyright credits delattr dir eval exec exit gc getattr globals hasattr help id importlib license locals
    methodcaller os quit setattr super vars sys
""".split())
# L22 and L23.
KEYWORDS = {
    "sorted": {"key", "reverse"}, "min": {"key", "default"}, "max": {"key", "default"}, "sum": {"start"},
    "enumerate": {"start"}, "zip": {"strict"},
}
WALKED_AT_ONCE = {"zip", "enumerate", "reversed", "range", "items", "keys", "values"}
WALKERS = {"list", "tuple", "dict", "sorted", "sum", "any", "all", "enumerate", "zip", "min", "max", "join"}
SPECIAL_METHODS = {"__init__", "__eq__", "__repr__", "__str__", "__len__"}


def files():
    return sorted(PACKAGE.glob("*.py"))


def trees():
    return [(path, ast.parse(path.read_text(encoding="utf-8"))) for path in files()]


def defined(tree):
    """What a file's top defines, imports left out."""
    names = [node.name for node in tree.body if isinstance(node, (ast.FunctionDef, ast.ClassDef))]
    for node in tree.body:
        if isinstance(node, ast.Assign):
            names.extend(target.id for target in node.targets)
    return names


def imports(tree):
    return [node for node in ast.walk(tree) if isinstance(node, ast.ImportFrom)]


def called(node):
    """The name of what a call calls, None of what is no call of a name or a method."""
    if not isinstance(node, ast.Call):
        return None
    return getattr(node.func, "id", None) or getattr(node.func, "attr", None)


class Files(unittest.TestCase):
    def test_only_plainly_named_files_lie_in_the_package(self):
        for path in PACKAGE.iterdir():
            if path.name != "__pycache__":
                self.assertRegex(path.name, r"^([a-z][a-z0-9_]*|__init__|__main__)\.py$")
                self.assertNotIn(path.stem, dir(builtins))
        self.assertTrue((PACKAGE / "__init__.py").is_file())

    def test_signs_and_sizes(self):
        for path in files():
            text = path.read_bytes().decode("utf-8")
            self.assertRegex(text, r"\A[ -~\n]*\Z", path.name)
            rows = text.splitlines()
            self.assertLessEqual(len(rows), 400, path.name)
            self.assertLessEqual(max([len(row) for row in rows], default=0), 120, path.name)
            self.assertIsNone(WORDS.search(text), path.name)

    def test_imports_come_from_the_defining_file_and_in_no_circle(self):
        tops = {"nearland." + path.stem: defined(tree) for path, tree in trees()}
        drawn = {}
        for path, tree in trees():
            for node in imports(tree):
                self.assertIn(node, tree.body, path.name)
                self.assertEqual(node.level, 0, path.name)
                for alias in node.names:
                    self.assertIn(alias.name, tops[node.module], path.name)
            drawn["nearland." + path.stem] = {node.module for node in imports(tree)}
        while drawn:
            free = [name for name in drawn if not drawn[name] & set(drawn)]
            self.assertTrue(free, "files draw from one another")
            for name in free:
                del drawn[name]


class Rows(unittest.TestCase):
    def each(self, kind):
        nodes = [(path, node) for path, tree in trees() for node in ast.walk(tree) if isinstance(node, kind)]
        return [(f"{path.name}:{node.lineno}", node) for path, node in nodes]

    def test_only_the_listed_statements_and_expressions(self):
        for path, tree in trees():
            for node in ast.walk(tree):
                kind = node.__class__.__name__
                self.assertIn(kind, NODES, f"{path.name}:{getattr(node, 'lineno', 0)}")

    def test_the_top_of_a_file(self):
        for path, tree in trees():
            self.assertIsNotNone(ast.get_docstring(tree), path.name)
            for node in tree.body[1:]:
                self.assertIsInstance(node, (ast.ImportFrom, ast.FunctionDef, ast.ClassDef, ast.Assign), path.name)
            names = defined(tree) + [alias.name for node in imports(tree) for alias in node.names]
            self.assertEqual(len(names), len(set(names)), path.name)

    def test_functions(self):
        for where, node in self.each(ast.FunctionDef):
            self.assertLessEqual(node.end_lineno - node.lineno + 1, 40, where)
            self.assertEqual(node.decorator_list, [], where)
            self.assertIsNone(node.args.vararg, where)
            self.assertIsNone(node.args.kwarg, where)
            self.assertEqual(node.args.kwonlyargs + node.args.posonlyargs, [], where)

    def test_classes(self):
        for where, node in self.each(ast.ClassDef):
            self.assertEqual(node.decorator_list, [], where)
            self.assertLessEqual(len(node.bases), 1, where)
            for inner in node.body:
                self.assertIsInstance(inner, (ast.FunctionDef, ast.Pass), where)

    def test_statements(self):
        for where, node in self.each((ast.For, ast.While)):
            self.assertEqual(node.orelse, [], where)
        for where, node in self.each(ast.Try):
            self.assertEqual(node.finalbody, [], where)
        for where, node in self.each(ast.Assign):
            self.assertEqual(len(node.targets), 1, where)
        for where, node in self.each(ast.ExceptHandler):
            self.assertIsNotNone(node.type, where)

    def test_errors_taken(self):
        own = [node.name for where, node in self.each(ast.ClassDef) if where.startswith("errors.py")]
        for where, node in self.each(ast.ExceptHandler):
            kinds = node.type.elts if isinstance(node.type, ast.Tuple) else [node.type]
            for kind in kinds:
                self.assertIn(kind.id, own + ["KeyError", "ZeroDivisionError", "StopIteration"], where)

    def test_lists_and_dicts_of_a_file_s_top_hold_none_and_are_only_read(self):
        for path, tree in trees():
            kept = [node for node in tree.body if isinstance(node, ast.Assign)]
            names = {node.targets[0].id for node in kept}
            for node in kept:
                for inner in ast.walk(node.value):
                    if inner is not node.value:
                        self.assertNotIsInstance(inner, (ast.List, ast.Dict, ast.Call), path.name)
            for node in ast.walk(tree):
                where = f"{path.name}:{getattr(node, 'lineno', 0)}"
                if isinstance(node, ast.Subscript) and not isinstance(node.ctx, ast.Load):
                    self.assertNotIn(getattr(node.value, "id", None), names, where)
                if isinstance(node, ast.Attribute):
                    self.assertNotIn(getattr(node.value, "id", None), names, where)
                if isinstance(node, ast.Name) and isinstance(node.ctx, ast.Store):
                    self.assertFalse(node.id in names and node.col_offset > 0, where)

    def test_values(self):
        for where, node in self.each(ast.Constant):
            self.assertIn(node.value.__class__, (int, str, bool, None.__class__), where)
            if isinstance(node.value, str):
                self.assertNotIn("%", node.value, where)
        for where, node in self.each(ast.ListComp):
            self.assertEqual(len(node.generators), 1, where)
            self.assertLessEqual(len(node.generators[0].ifs), 1, where)
        for where, node in self.each(ast.BinOp):
            if isinstance(node.op, ast.Pow):
                self.assertIsInstance(node.right, ast.Constant, where)
        for where, node in self.each(ast.Compare):
            if any(isinstance(op, (ast.Is, ast.IsNot)) for op in node.ops):
                self.assertIn(repr(getattr(node.comparators[0], "value", "")), ("None", "True", "False"), where)

    def test_names(self):
        for where, node in self.each((ast.Name, ast.arg, ast.FunctionDef, ast.ClassDef)):
            name = getattr(node, "id", None) or getattr(node, "arg", None) or getattr(node, "name", None)
            self.assertNotIn(name, NAMES_OUT, where)
            if name not in SPECIAL_METHODS:
                self.assertFalse(name.startswith("_"), where)
            bound = not isinstance(node, ast.Name) or isinstance(node.ctx, ast.Store)
            if bound or name not in PYTHONS_OWN:
                self.assertNotIn(name, dir(builtins), where)

    def test_attributes(self):
        own = {node.attr for where, node in self.each(ast.Attribute) if isinstance(node.ctx, ast.Store)}
        own.update(node.name for where, node in self.each(ast.FunctionDef))
        for where, node in self.each(ast.Attribute):
            self.assertIn(node.attr, METHODS | own, where)
            self.assertNotIn(node.attr, NAMES_OUT, where)

    def test_locals_are_not_called_like_an_import_or_a_class(self):
        for path, tree in trees():
            taken = {alias.name for node in imports(tree) for alias in node.names}
            taken.update(node.name for node in tree.body if isinstance(node, ast.ClassDef))
            for node in ast.walk(tree):
                where = f"{path.name}:{getattr(node, 'lineno', 0)}"
                if isinstance(node, ast.arg):
                    self.assertNotIn(node.arg, taken, where)
                if isinstance(node, ast.Name) and isinstance(node.ctx, ast.Store):
                    self.assertNotIn(node.id, taken, where)

    def test_keywords(self):
        own = {node.name for where, node in self.each(ast.FunctionDef)}
        for where, node in self.each(ast.Call):
            if called(node) not in own:
                for keyword in node.keywords:
                    self.assertIn(keyword.arg, KEYWORDS.get(called(node), set()), where)

    def test_what_is_walked_at_once_and_sets(self):
        for path, tree in trees():
            for outer in ast.walk(tree):
                for node in ast.iter_child_nodes(outer):
                    where = f"{path.name}:{getattr(node, 'lineno', 0)}"
                    name = called(node)
                    if name in WALKED_AT_ONCE:
                        looped = isinstance(outer, (ast.For, ast.comprehension)) and outer.iter is node
                        self.assertTrue(looped or called(outer) in WALKERS, where)
                    if name in ("set", "frozenset"):
                        in_place = isinstance(outer, (ast.Compare, ast.BinOp)) or called(outer) in ("sorted", "len")
                        self.assertTrue(in_place, where)
                    if isinstance(node, ast.Set):
                        self.assertIsInstance(outer, ast.Compare, where)


if __name__ == "__main__":
    unittest.main()
