"""Checks many of the rules of the language on the package's files, not all, by the syntax tree."""

import ast
import builtins
import pathlib
import re
import unittest

PACKAGE = pathlib.Path(__file__).resolve().parent.parent / "easelroom"

NODES = """
Module Expr Constant Assign AugAssign Name Load Store Tuple List Dict Set Attribute Subscript Slice Call keyword
FunctionDef arguments arg Return ClassDef If While For Break Continue Pass Raise Try ExceptHandler ImportFrom alias
BinOp UnaryOp BoolOp Compare IfExp ListComp comprehension Lambda JoinedStr FormattedValue And Or Not USub UAdd Invert
Add Sub Mult FloorDiv Mod Pow BitAnd BitOr BitXor LShift RShift Eq NotEq Lt LtE Gt GtE Is IsNot In NotIn
""".split()

OWN_NAMES = """
len range enumerate zip min max sum abs sorted reversed int str bool list tuple dict set frozenset isinstance ord repr
any all divmod Exception ValueError TypeError KeyError IndexError LookupError ZeroDivisionError ArithmeticError
OverflowError RuntimeError NotImplementedError AttributeError StopIteration
""".split()

METHODS = """
append clear copy count endswith extend find get index insert isalnum isalpha isdigit islower isspace isupper items
join keys ljust lower lstrip partition pop remove replace reverse rfind rjust rpartition rsplit rstrip setdefault split
splitlines startswith strip update upper values zfill bit_length
""".split()

SPECIAL_METHODS = ["__init__", "__eq__", "__repr__", "__str__", "__len__"]

UNUSED_WORDS = r"""\b(type|typing|typing_extensions|enum|Enum|IntEnum|StrEnum|Flag|IntFlag|Generic|Protocol|ABC|ABCMeta
|namedtuple|NamedTuple|TypedDict|TYPE_CHECKING|abstractmethod)\b|dataclass|overload|contextmanager""".replace("\n", "")

UNUSED_NAMES = """
register mro elements open input version_info with_traceback add_note format format_map attrgetter breakpoint builtins
compile copyright credits delattr dir eval exec exit gc getattr globals hasattr help id importlib license locals
methodcaller os quit setattr super vars sys
""".split()


def package_files():
    return sorted(path for path in PACKAGE.rglob("*") if path.is_file() and "__pycache__" not in path.parts)


def trees():
    return [(path, ast.parse(path.read_text(encoding="utf-8"))) for path in package_files()]


def walked():
    return [(path.name, node) for path, tree in trees() for node in ast.walk(tree)]


def names_of(node):
    """Each name that a node gives or reads."""
    if isinstance(node, ast.Name):
        return [node.id]
    if isinstance(node, ast.Attribute):
        return [node.attr]
    if isinstance(node, ast.arg):
        return [node.arg]
    if isinstance(node, (ast.FunctionDef, ast.ClassDef)):
        return [node.name]
    return []


def top_names(tree):
    found = []
    for node in tree.body:
        if isinstance(node, (ast.FunctionDef, ast.ClassDef)):
            found.append(node.name)
        elif isinstance(node, ast.Assign):
            found.extend(target.id for target in node.targets)
    return found


def imports_of(tree):
    return [node for node in tree.body if isinstance(node, ast.ImportFrom) and node.module != "__future__"]


class Files(unittest.TestCase):
    def test_only_plainly_named_files_of_the_language(self):
        for path in package_files():
            self.assertRegex(path.name, r"\A([a-z][a-z0-9_]*|__init__|__main__)\.py\Z")
            self.assertNotIn(path.stem, dir(builtins))
            self.assertNotRegex(path.stem, r"\A(test|tests|testing|test_.*|site|conftest|.*customize)\Z")

    def test_signs_and_sizes(self):
        for path in package_files():
            text = path.read_bytes().decode("ascii")
            self.assertRegex(text, r"\A[ -~\n]*\Z", path.name)
            lines = text.split("\n")
            self.assertLessEqual(len(lines), 401, path.name)
            self.assertLessEqual(max(len(line) for line in lines), 120, path.name)
            self.assertIsNone(re.search(UNUSED_WORDS, text), path.name)

    def test_functions_are_short(self):
        for name, node in walked():
            if isinstance(node, ast.FunctionDef):
                self.assertLessEqual(node.end_lineno - node.lineno + 1, 40, (name, node.name))


class Imports(unittest.TestCase):
    def test_from_the_very_file_that_defines_the_name(self):
        tops = {path.stem: top_names(tree) for path, tree in trees()}
        for path, tree in trees():
            for node in imports_of(tree):
                self.assertEqual(node.level, 0)
                self.assertTrue(node.module.startswith("easelroom."), path.name)
                for taken in node.names:
                    self.assertIn(taken.name, tops[node.module.split(".")[1]], path.name)

    def test_no_two_files_draw_from_one_another(self):
        drawn = {path.stem: {node.module.split(".")[1] for node in imports_of(tree)} for path, tree in trees()}
        while drawn:
            ready = [name for name, sources in drawn.items() if not sources & set(drawn)]
            self.assertTrue(ready, drawn)
            drawn = {name: sources for name, sources in drawn.items() if name not in ready}

    def test_the_package_s_own_file_binds_no_name_of_a_file(self):
        tops = {path.stem: top_names(tree) for path, tree in trees()}
        self.assertEqual(set(tops["__init__"]) & set(tops), set())


class Forms(unittest.TestCase):
    def test_only_the_parts_of_the_language_that_are_kept_to(self):
        for name, node in walked():
            self.assertIn(node.__class__.__name__, NODES, (name, getattr(node, "lineno", None)))

    def test_values(self):
        for name, node in walked():
            if isinstance(node, ast.Constant):
                self.assertIn(node.value.__class__, (int, str, bool, None.__class__), name)

    def test_the_top_of_a_file(self):
        for path, tree in trees():
            self.assertIsNotNone(ast.get_docstring(tree), path.name)
            for node in tree.body[1:]:
                self.assertIsInstance(node, (ast.ImportFrom, ast.FunctionDef, ast.ClassDef, ast.Assign), path.name)
            names = top_names(tree)
            self.assertEqual(len(names), len(set(names)), path.name)

    def test_functions_and_classes(self):
        for name, node in walked():
            if isinstance(node, ast.arguments):
                self.assertFalse(node.vararg or node.kwarg or node.kwonlyargs or node.posonlyargs, name)
            if isinstance(node, (ast.FunctionDef, ast.ClassDef)):
                self.assertEqual(node.decorator_list, [], name)
            if isinstance(node, ast.ClassDef):
                self.assertLessEqual(len(node.bases), 1, name)
                for part in node.body:
                    is_words = isinstance(part, ast.Expr) and isinstance(part.value, ast.Constant)
                    self.assertTrue(is_words or isinstance(part, (ast.FunctionDef, ast.Pass)), name)

    def test_statements(self):
        for name, node in walked():
            if isinstance(node, (ast.For, ast.While)):
                self.assertEqual(node.orelse, [], name)
            if isinstance(node, ast.Try):
                self.assertEqual(node.finalbody, [], name)
            if isinstance(node, ast.Assign):
                self.assertEqual(len(node.targets), 1, name)
            if isinstance(node, ast.ListComp):
                self.assertEqual(len(node.generators), 1, name)
                self.assertLessEqual(len(node.generators[0].ifs), 1, name)

    def test_is_stands_beside_none_and_truths_alone(self):
        for name, node in walked():
            if isinstance(node, ast.Compare) and any(isinstance(sign, (ast.Is, ast.IsNot)) for sign in node.ops):
                beside = node.comparators[0]
                self.assertTrue(isinstance(beside, ast.Constant) and beside.value in (None, True, False), name)

    def test_handlers_name_their_errors(self):
        for name, node in walked():
            if isinstance(node, ast.ExceptHandler):
                self.assertIsNotNone(node.type, name)
                taken = [part.id for part in ast.walk(node.type) if isinstance(part, ast.Name)]
                self.assertFalse({"Exception", "TypeError"} & set(taken), name)


class Names(unittest.TestCase):
    def test_plain_names(self):
        for name, node in walked():
            for word in names_of(node):
                self.assertTrue(not word.startswith("_") or word in SPECIAL_METHODS + ["__name__"], (name, word))
                self.assertNotIn(word, UNUSED_NAMES, name)

    def test_of_python_s_own_names_only_those_listed(self):
        for name, node in walked():
            if isinstance(node, ast.Name) and hasattr(builtins, node.id):
                self.assertIn(node.id, OWN_NAMES, name)
                self.assertIsInstance(node.ctx, ast.Load, (name, node.id))
            given = names_of(node) if isinstance(node, (ast.arg, ast.FunctionDef, ast.ClassDef)) else []
            for word in given:
                self.assertTrue(word in SPECIAL_METHODS or not hasattr(builtins, word), (name, word))

    def test_no_local_is_called_like_a_class_or_an_import(self):
        for path, tree in trees():
            classes = [node.name for node in tree.body if isinstance(node, ast.ClassDef)]
            taken = classes + [alias.asname or alias.name for node in imports_of(tree) for alias in node.names]
            for node in ast.walk(tree):
                bound = isinstance(node, ast.arg) or isinstance(getattr(node, "ctx", None), ast.Store)
                if bound and isinstance(node, (ast.arg, ast.Name)):
                    self.assertNotIn(names_of(node)[0], taken, path.name)

    def test_methods(self):
        own = [node.name for name, node in walked() if isinstance(node, ast.FunctionDef)]
        for name, node in walked():
            if isinstance(node, ast.Call) and isinstance(node.func, ast.Attribute):
                self.assertIn(node.func.attr, METHODS + own + SPECIAL_METHODS, name)


def parents(tree):
    """For each node of the tree the node that it stands in."""
    return {child: node for node in ast.walk(tree) for child in ast.iter_child_nodes(node)}


def calls_of(tree, names):
    """The calls of these names of Python's own."""
    return [node for node in ast.walk(tree) if isinstance(node, ast.Call) and is_name_of(node.func, names)]


def is_name_of(node, names):
    return isinstance(node, ast.Name) and node.id in names


KEYWORDS = {
    "sorted": ["key", "reverse"], "min": ["key", "default"], "max": ["key", "default"], "sum": ["start"],
    "enumerate": ["start"], "zip": ["strict"],
}
WALKERS = ["list", "tuple", "dict", "sorted", "sum", "any", "all", "enumerate", "zip", "min", "max"]
CHANGES = "append clear extend insert pop remove reverse setdefault update".split()
READS = "get index count keys values items".split()
VALUES_OF_OWN = "count index title find get join lower upper split strip copy add".split()


class NarrowForms(unittest.TestCase):
    """Parts of the rules L13, L15, L18, L19, L21 to L24 and L26 to L28."""

    def test_sets_are_measured_or_asked_on_the_spot(self):
        for path, tree in trees():
            above = parents(tree)
            self.assertFalse([node for node in ast.walk(tree) if isinstance(node, ast.Set)], path.name)
            for node in calls_of(tree, ["set", "frozenset"]):
                self.assertTrue(is_name_of(getattr(above[node], "func", None), ["len", "sorted"]), path.name)

    def test_lists_and_dicts_of_the_top_are_only_read(self):
        for path, tree in trees():
            above = parents(tree)
            tops = {}
            for node in tree.body:
                if isinstance(node, ast.Assign):
                    tops[node.targets[0].id] = node.value
                    inner = [part for part in ast.walk(node.value) if isinstance(part, (ast.List, ast.Dict))]
                    self.assertTrue(all(part is node.value for part in inner), path.name)
                    self.assertFalse([part for part in ast.walk(node.value) if isinstance(part, (ast.Call, ast.BinOp))])
            for node in ast.walk(tree):
                if isinstance(node, ast.Name) and isinstance(tops.get(node.id), (ast.List, ast.Dict)):
                    at = above[node]
                    if isinstance(node.ctx, ast.Store):
                        self.assertIn(at, tree.body)
                        continue
                    copied = isinstance(at, ast.Call) and is_name_of(at.func, ["list", "dict", "len", "tuple"])
                    read = isinstance(at, ast.Subscript) and isinstance(at.ctx, ast.Load)
                    asked = isinstance(at, ast.Compare) or isinstance(at, ast.Attribute) and at.attr in READS
                    self.assertTrue(copied or read or asked or isinstance(at, ast.For), (path.name, node.id))

    def test_no_name_is_a_method_and_a_value(self):
        methods, values = set(), set()
        for path, tree in trees():
            for node in ast.walk(tree):
                if isinstance(node, ast.ClassDef):
                    own = [part.name for part in node.body if isinstance(part, ast.FunctionDef)]
                    self.assertEqual(len(own), len(set(own)), node.name)
                    methods.update(own)
                    given = [part for part in ast.walk(node) if isinstance(part, ast.Attribute)]
                    values.update(part.attr for part in given if isinstance(part.ctx, ast.Store))
        self.assertEqual(methods & values, set())
        taken = {name for kind in (str, int, list, dict, set, bytes, tuple) for name in dir(kind)}
        self.assertEqual((methods & taken) - set(METHODS + SPECIAL_METHODS + ["add", "discard"]), set())
        self.assertEqual((values & taken) - set(VALUES_OF_OWN), set())
        self.assertNotIn("args", values)

    def test_classes_are_called_taken_or_raised_alone(self):
        classes = {node.name for path, tree in trees() for node in tree.body if isinstance(node, ast.ClassDef)}
        for path, tree in trees():
            above = parents(tree)
            for node in ast.walk(tree):
                if is_name_of(node, classes):
                    at = above[node]
                    called = isinstance(at, ast.Call) and (at.func is node or is_name_of(at.func, ["isinstance"]))
                    self.assertTrue(called or isinstance(at, (ast.ClassDef, ast.ExceptHandler)), (path.name, node.id))

    def test_errors_are_made_where_they_are_raised_and_own_ones_are_taken(self):
        for name, node in walked():
            if isinstance(node, ast.Raise):
                self.assertIsInstance(node.exc, ast.Call, name)
            if isinstance(node, ast.ExceptHandler):
                self.assertIsInstance(node.type, ast.Name, name)
                self.assertFalse(hasattr(builtins, node.type.id), name)

    def test_no_annotations(self):
        for name, node in walked():
            self.assertIsNone(getattr(node, "annotation", None), name)
            self.assertIsNone(getattr(node, "returns", None), name)

    def test_keywords_of_python_s_own(self):
        for name, node in walked():
            if isinstance(node, ast.Call) and isinstance(node.func, ast.Name) and hasattr(builtins, node.func.id):
                self.assertLessEqual({word.arg for word in node.keywords}, set(KEYWORDS.get(node.func.id, [])), name)
            if isinstance(node, ast.Call) and isinstance(node.func, ast.Attribute):
                self.assertEqual(node.keywords, [], name)

    def test_python_s_own_names_and_methods_are_called_where_they_stand(self):
        kinds = ("int", "str", "bool", "list", "tuple", "dict", "ValueError")
        for path, tree in trees():
            above = parents(tree)
            methods = [node.name for node in ast.walk(tree) if isinstance(node, ast.FunctionDef)]
            for node in ast.walk(tree):
                called = isinstance(above.get(node), ast.Call) and above[node].func is node
                if is_name_of(node, OWN_NAMES) and not called:
                    self.assertIn(node.id, kinds, path.name)
                if isinstance(node, ast.Attribute) and node.attr in METHODS + methods:
                    self.assertTrue(called, (path.name, node.attr))

    def test_walked_at_once(self):
        for path, tree in trees():
            above = parents(tree)
            found = calls_of(tree, ["zip", "enumerate", "reversed", "range"])
            found += [node for node in ast.walk(tree) if isinstance(node, ast.Call)
                      and isinstance(node.func, ast.Attribute) and node.func.attr in ("items", "keys", "values")]
            for node in found:
                at = above[node]
                in_loop = isinstance(at, (ast.For, ast.comprehension)) and at.iter is node
                in_call = isinstance(at, ast.Call) and is_name_of(at.func, WALKERS)
                in_join = (isinstance(at, ast.Call) and isinstance(at.func, ast.Attribute) and at.func.attr == "join"
                           and isinstance(at.func.value, ast.Constant))
                self.assertTrue(in_loop or in_call or in_join, (path.name, node.lineno))

    def test_what_a_loop_walks_is_not_changed_in_it(self):
        for name, node in walked():
            if not isinstance(node, ast.For):
                continue
            over = {part.id for part in ast.walk(node.iter) if isinstance(part, ast.Name)}
            for part in [inner for line in node.body for inner in ast.walk(line)]:
                if isinstance(part, ast.Call) and isinstance(part.func, ast.Attribute) and part.func.attr in CHANGES:
                    self.assertFalse(is_name_of(part.func.value, over), (name, part.lineno))
                if isinstance(part, ast.Subscript) and isinstance(part.ctx, ast.Store):
                    self.assertFalse(is_name_of(part.value, over), (name, part.lineno))

    def test_exponents_are_written(self):
        for name, node in walked():
            if isinstance(node, ast.BinOp) and isinstance(node.op, ast.Pow):
                self.assertIsInstance(node.right, ast.Constant, name)
                self.assertTrue(0 <= node.right.value <= 64, name)

    def test_texts(self):
        for path in package_files():
            for node in ast.walk(ast.parse(path.read_text(encoding="utf-8"))):
                if isinstance(node, ast.Constant) and isinstance(node.value, str):
                    self.assertNotIn(chr(37), node.value, path.name)

    def test_makers_give_back_nothing(self):
        for name, node in walked():
            if isinstance(node, ast.FunctionDef) and node.name == "__init__":
                self.assertFalse([part for part in ast.walk(node) if isinstance(part, ast.Return)], name)


if __name__ == "__main__":
    unittest.main()
