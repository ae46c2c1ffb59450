"""Checks some of the rules of the language on the package's files, as far as the syntax tree shows them."""

import ast
import builtins
import pathlib
import re
import unittest

PACKAGE = pathlib.Path(__file__).resolve().parent.parent / "easelroom"

NODES = """
Module Expr Constant Assign AugAssign Name Load Store Tuple List Dict Set Attribute Subscript Slice Call keyword
FunctionDef arguments arg Return ClassDef If While For Break Continue Pass Raise Try ExceptHandler ImportFrom alias
BinOp UnaryOp BoolOp Compare IfExp ListComp comprehension Lambda JoinedStr FormattedValue And Or Not USub UAdd Invert
Add Sub Mult FloorDiv Mod Pow BitAnd BitOr BitXor LShift RShift Eq NotEq Lt LtE Gt GtE Is IsNot In NotIn
""".split()

OWN_NAMES = """
len range enumerate zip min max sum abs sorted reversed int str bool list tuple dict set frozenset isinstance ord repr
any all divmod Exception ValueError TypeError KeyError IndexError LookupError ZeroDivisionError ArithmeticError
OverflowError RuntimeError NotImplementedError AttributeError StopIteration
""".split()

METHODS = """
append clear copy count endswith extend find get index insert isalnum isalpha isdigit islower isspace isupper items
join keys ljust lower lstrip partition pop remove replace reverse rfind rjust rpartition rsplit rstrip setdefault split
splitlines startswith strip update upper values zfill bit_length
""".split()

SPECIAL_METHODS = ["__init__", "__eq__", "__repr__", "__str__", "__len__"]

UNUSED_WORDS = r"""\b(type|typing|typing_extensions|enum|Enum|IntEnum|StrEnum|Flag|IntFlag|Generic|Protocol|ABC|ABCMeta
|namedtuple|NamedTuple|TypedDict|TYPE_CHECKING|abstractmethod)\b|dataclass|overload|contextmanager""".replace("\n", "")

UNUSED_NAMES = """
register mro elements open input version_info with_traceback add_note format format_map attrgetter breakpoint builtins
compile copyright credits delattr dir eval exec exit gc getattr globals hasattr help id importlib license locals
methodcaller os quit setattr super vars sys
""".split()


def package_files():
    return sorted(path for path in PACKAGE.rglob("*") if path.is_file() and "__pycache__" not in path.parts)


def trees():
    return [(path, ast.parse(path.read_text(encoding="utf-8"))) for path in package_files()]


def walked():
    return [(path.name, node) for path, tree in trees() for node in ast.walk(tree)]


def names_of(node):
    """Each name that a node gives or reads."""
    if isinstance(node, ast.Name):
        return [node.id]
    if isinstance(node, ast.Attribute):
        return [node.attr]
    if isinstance(node, ast.arg):
        return [node.arg]
    if isinstance(node, (ast.FunctionDef, ast.ClassDef)):
        return [node.name]
    return []


def top_names(tree):
    found = []
    for node in tree.body:
        if isinstance(node, (ast.FunctionDef, ast.ClassDef)):
            found.append(node.name)
        elif isinstance(node, ast.Assign):
            found.extend(target.id for target in node.targets)
    return found


def imports_of(tree):
    return [node for node in tree.body if isinstance(node, ast.ImportFrom) and node.module != "__future__"]


class Files(unittest.TestCase):
    def test_only_plainly_named_files_of_the_language(self):
        for path in package_files():
            self.assertRegex(path.name, r"\A([a-z][a-z0-9_]*|__init__|__main__)\.py\Z")
            self.assertNotIn(path.stem, dir(builtins))
            self.assertNotRegex(path.stem, r"\A(test|tests|testing|test_.*|site|conftest|.*customize)\Z")

    def test_signs_and_sizes(self):
        for path in package_files():
            text = path.read_bytes().decode("ascii")
            self.assertRegex(text, r"\A[ -~\n]*\Z", path.name)
            lines = text.split("\n")
            self.assertLessEqual(len(lines), 401, path.name)
            self.assertLessEqual(max(len(line) for line in lines), 120, path.name)
            self.assertIsNone(re.search(UNUSED_WORDS, text), path.name)

    def test_functions_are_short(self):
        for name, node in walked():
            if isinstance(node, ast.FunctionDef):
                self.assertLessEqual(node.end_lineno - node.lineno + 1, 40, (name, node.name))


class Imports(unittest.TestCase):
    def test_from_the_very_file_that_defines_the_name(self):
        tops = {path.stem: top_names(tree) for path, tree in trees()}
        for path, tree in trees():
            for node in imports_of(tree):
                self.assertEqual(node.level, 0)
                self.assertTrue(node.module.startswith("easelroom."), path.name)
                for taken in node.names:
                    self.assertIn(taken.name, tops[node.module.split(".")[1]], path.name)

    def test_no_two_files_draw_from_one_another(self):
        drawn = {path.stem: {node.module.split(".")[1] for node in imports_of(tree)} for path, tree in trees()}
        while drawn:
            ready = [name for name, sources in drawn.items() if not sources & set(drawn)]
            self.assertTrue(ready, drawn)
            drawn = {name: sources for name, sources in drawn.items() if name not in ready}

    def test_the_package_s_own_file_binds_no_name_of_a_file(self):
        tops = {path.stem: top_names(tree) for path, tree in trees()}
        self.assertEqual(set(tops["__init__"]) & set(tops), set())


class Forms(unittest.TestCase):
    def test_only_the_parts_of_the_language_that_are_kept_to(self):
        for name, node in walked():
            self.assertIn(node.__class__.__name__, NODES, (name, getattr(node, "lineno", None)))

    def test_values(self):
        for name, node in walked():
            if isinstance(node, ast.Constant):
                self.assertIn(node.value.__class__, (int, str, bool, None.__class__), name)

    def test_the_top_of_a_file(self):
        for path, tree in trees():
            self.assertIsNotNone(ast.get_docstring(tree), path.name)
            for node in tree.body[1:]:
                self.assertIsInstance(node, (ast.ImportFrom, ast.FunctionDef, ast.ClassDef, ast.Assign), path.name)
            names = top_names(tree)
            self.assertEqual(len(names), len(set(names)), path.name)

    def test_functions_and_classes(self):
        for name, node in walked():
            if isinstance(node, ast.arguments):
                self.assertFalse(node.vararg or node.kwarg or node.kwonlyargs or node.posonlyargs, name)
            if isinstance(node, (ast.FunctionDef, ast.ClassDef)):
                self.assertEqual(node.decorator_list, [], name)
            if isinstance(node, ast.ClassDef):
                self.assertLessEqual(len(node.bases), 1, name)
                for part in node.body:
                    is_words = isinstance(part, ast.Expr) and isinstance(part.value, ast.Constant)
                    self.assertTrue(is_words or isinstance(part, (ast.FunctionDef, ast.Pass)), name)

    def test_statements(self):
        for name, node in walked():
            if isinstance(node, (ast.For, ast.While)):
                self.assertEqual(node.orelse, [], name)
            if isinstance(node, ast.Try):
                self.assertEqual(node.finalbody, [], name)
            if isinstance(node, ast.Assign):
                self.assertEqual(len(node.targets), 1, name)
            if isinstance(node, ast.ListComp):
                self.assertEqual(len(node.generators), 1, name)
                self.assertLessEqual(len(node.generators[0].ifs), 1, name)

    def test_is_stands_beside_none_and_truths_alone(self):
        for name, node in walked():
            if isinstance(node, ast.Compare) and any(isinstance(sign, (ast.Is, ast.IsNot)) for sign in node.ops):
                beside = node.comparators[0]
                self.assertTrue(isinstance(beside, ast.Constant) and beside.value in (None, True, False), name)

    def test_handlers_name_their_errors(self):
        for name, node in walked():
            if isinstance(node, ast.ExceptHandler):
                self.assertIsNotNone(node.type, name)
                taken = [part.id for part in ast.walk(node.type) if isinstance(part, ast.Name)]
                self.assertFalse({"Exception", "TypeError"} & set(taken), name)


class Names(unittest.TestCase):
    def test_plain_names(self):
        for name, node in walked():
            for word in names_of(node):
                self.assertTrue(not word.startswith("_") or word in SPECIAL_METHODS + ["__name__"], (name, word))
                self.assertNotIn(word, UNUSED_NAMES, name)

    def test_of_python_s_own_names_only_those_listed(self):
        for name, node in walked():
            if isinstance(node, ast.Name) and hasattr(builtins, node.id):
                self.assertIn(node.id, OWN_NAMES, name)
                self.assertIsInstance(node.ctx, ast.Load, (name, node.id))
            given = names_of(node) if isinstance(node, (ast.arg, ast.FunctionDef, ast.ClassDef)) else []
            for word in given:
                self.assertTrue(word in SPECIAL_METHODS or not hasattr(builtins, word), (name, word))

    def test_no_local_is_called_like_a_class_or_an_import(self):
        for path, tree in trees():
            classes = [node.name for node in tree.body if isinstance(node, ast.ClassDef)]
            taken = classes + [alias.asname or alias.name for node in imports_of(tree) for alias in node.names]
            for node in ast.walk(tree):
                bound = isinstance(node, ast.arg) or isinstance(getattr(node, "ctx", None), ast.Store)
                if bound and isinstance(node, (ast.arg, ast.Name)):
                    self.assertNotIn(names_of(node)[0], taken, path.name)

    def test_methods(self):
        own = [node.name for name, node in walked() if isinstance(node, ast.FunctionDef)]
        for name, node in walked():
            if isinstance(node, ast.Call) and isinstance(node.func, ast.Attribute):
                self.assertIn(node.func.attr, METHODS + own + SPECIAL_METHODS, name)


if __name__ == "__main__":
    unittest.main()
