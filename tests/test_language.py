"""The rules of the language that can be seen by reading the package's files."""

import ast
import builtins
import pathlib
import re
import unittest

PACKAGE = pathlib.Path(__file__).resolve().parent.parent / "roundcall"

OWN_NAMES = set(
    "len range enumerate zip min max sum abs sorted reversed int str bool list tuple dict set frozenset"
    " isinstance ord repr any all divmod Exception ValueError TypeError KeyError IndexError LookupError"
    " ZeroDivisionError ArithmeticError OverflowError RuntimeError NotImplementedError AttributeError"
    " StopIteration".split()
)
OWN_METHODS = set(
    "append clear copy count endswith extend find get index insert isalnum isalpha isdigit islower isspace"
    " isupper items join keys ljust lower lstrip partition pop remove replace reverse rfind rjust rpartition"
    " rsplit rstrip setdefault split splitlines startswith strip update upper values zfill bit_length".split()
)
NODES = set(
    "Module FunctionDef arguments arg ClassDef Return Assign AugAssign If While For Break Continue Pass Raise"
    " Try ExceptHandler Expr Call ImportFrom alias Name Load Store Constant List Tuple Dict Set BinOp UnaryOp"
    " BoolOp Compare IfExp Attribute Subscript Slice ListComp comprehension JoinedStr FormattedValue Lambda"
    " keyword Add Sub Mult FloorDiv Mod Pow BitAnd BitOr BitXor LShift RShift Invert Not USub And Or"
    " Eq NotEq Lt LtE Gt GtE Is IsNot In NotIn".split()
)
WORDS = re.compile(
    r"\b(type|typing|typing_extensions|enum|Enum|IntEnum|StrEnum|Flag|IntFlag|Generic|Protocol|ABC|ABCMeta"
    r"|namedtuple|NamedTuple|TypedDict|TYPE_CHECKING|abstractmethod)\b|dataclass|overload|contextmanager"
)
METHODS = set("__init__ __eq__ __repr__ __str__ __len__".split())
# Values of an object may bear these names, though Python's own values have them as methods.
SHARED_VALUES = set("count index title find get join lower upper split strip copy add".split())
WALKED = ("zip", "enumerate", "reversed", "range")
WALKERS = ("list", "tuple", "dict", "sorted", "sum", "any", "all", "enumerate", "zip", "min", "max")


def trees():
    return {path: ast.parse(path.read_text("ascii")) for path in sorted(PACKAGE.glob("*.py"))}


def nodes(kind):
    return [(path.name, node) for path, tree in trees().items() for node in ast.walk(tree) if isinstance(node, kind)]


def bound_names(node):
    if isinstance(node, (ast.FunctionDef, ast.ClassDef)):
        return [node.name]
    if isinstance(node, ast.arg):
        return [node.arg]
    if isinstance(node, ast.Name) and isinstance(node.ctx, ast.Store):
        return [node.id]
    if isinstance(node, ast.ImportFrom):
        return [alias.asname or alias.name for alias in node.names]
    return []


def defined_at_top(tree):
    names = []
    for node in tree.body:
        if isinstance(node, ast.Assign):
            names += [target.id for target in node.targets]
        elif isinstance(node, (ast.FunctionDef, ast.ClassDef)):
            names.append(node.name)
    return names


def own_methods():
    bodies = [part for name, node in nodes(ast.ClassDef) for part in node.body]
    return {part.name for part in bodies if isinstance(part, ast.FunctionDef)}


def is_call_of(node, names):
    return isinstance(node, ast.Call) and isinstance(node.func, ast.Name) and node.func.id in names


def around(tree):
    """Each node of the tree with the node that it stands in."""
    return [(child, node) for node in ast.walk(tree) for child in ast.iter_child_nodes(node)]


class Files(unittest.TestCase):
    def test_only_plainly_named_python_files(self):
        self.assertTrue((PACKAGE / "__init__.py").is_file())
        for path in PACKAGE.iterdir():
            if path.name != "__pycache__":
                with self.subTest(path=path.name):
                    self.assertTrue(path.is_file())
                    self.assertRegex(path.name, r"^(__init__|[a-z][a-z0-9_]*)\.py$")
                    self.assertFalse(path.stem.startswith(("test", "site", "conftest")))
                    self.assertNotIn(path.stem, dir(builtins))

    def test_signs_words_and_sizes(self):
        for path in PACKAGE.glob("*.py"):
            text = path.read_bytes().decode("ascii")
            with self.subTest(path=path.name):
                self.assertRegex(text, r"\A[ -~\n]*\Z")
                self.assertIsNone(WORDS.search(text))
                self.assertLessEqual(len(text.splitlines()), 400)
                self.assertLessEqual(max(map(len, text.splitlines())), 120)

    def test_functions_are_short(self):
        for name, node in nodes(ast.FunctionDef):
            with self.subTest(file=name, function=node.name):
                self.assertLessEqual(node.end_lineno - node.lineno + 1, 40)


class Forms(unittest.TestCase):
    def test_only_statements_and_expressions_of_the_small_language(self):
        for name, node in nodes(ast.AST):
            with self.subTest(file=name, line=getattr(node, "lineno", 0)):
                self.assertIn(type(node).__name__, NODES)

    def test_the_top_of_a_file(self):
        for path, tree in trees().items():
            with self.subTest(path=path.name):
                self.assertIsNotNone(ast.get_docstring(tree))
                for node in tree.body[1:]:
                    self.assertIsInstance(node, (ast.ImportFrom, ast.Assign, ast.FunctionDef, ast.ClassDef))
                names = defined_at_top(tree)
                self.assertEqual(len(names), len(set(names)))

    def test_functions_and_classes_are_plain(self):
        for name, node in nodes((ast.FunctionDef, ast.ClassDef)):
            with self.subTest(file=name, line=node.lineno):
                self.assertEqual(node.decorator_list, [])
        for name, node in nodes(ast.arguments):
            with self.subTest(file=name):
                self.assertIsNone(node.vararg)
                self.assertIsNone(node.kwarg)
                self.assertEqual(node.kwonlyargs + node.posonlyargs, [])
        for name, node in nodes(ast.ClassDef):
            with self.subTest(file=name, line=node.lineno):
                self.assertLessEqual(len(node.bases), 1)
                self.assertEqual([part for part in node.body if not isinstance(part, (ast.FunctionDef, ast.Pass))], [])

    def test_statements_are_plain(self):
        for name, node in nodes((ast.For, ast.While)):
            with self.subTest(file=name, line=node.lineno):
                self.assertEqual(node.orelse, [])
        for name, node in nodes(ast.Assign):
            with self.subTest(file=name, line=node.lineno):
                self.assertEqual(len(node.targets), 1)
        for name, node in nodes(ast.ListComp):
            with self.subTest(file=name, line=node.lineno):
                self.assertEqual(len(node.generators), 1)
                self.assertLessEqual(len(node.generators[0].ifs), 1)
        for name, node in nodes(ast.Constant):
            with self.subTest(file=name, line=node.lineno):
                self.assertIn(type(node.value), (int, str, bool, type(None)))

    def test_is_stands_beside_none_true_and_false_alone(self):
        for name, node in nodes(ast.Compare):
            for operator, value in zip(node.ops, node.comparators):
                if isinstance(operator, (ast.Is, ast.IsNot)):
                    with self.subTest(file=name, line=node.lineno):
                        self.assertIn(getattr(value, "value", 0), (None, True, False))
                        self.assertIsInstance(value, ast.Constant)

    def test_no_number_of_unknown_size_is_an_exponent(self):
        for name, node in nodes(ast.BinOp):
            if isinstance(node.op, ast.Pow):
                with self.subTest(file=name, line=node.lineno):
                    self.assertIn(getattr(node.right, "value", None), range(65))

    def test_what_is_walked_is_walked_on_the_spot(self):
        for path, tree in trees().items():
            for node, outer in around(tree):
                if is_call_of(node, WALKED):
                    with self.subTest(path=path.name, line=node.lineno):
                        behind_in = isinstance(outer, (ast.For, ast.comprehension)) and outer.iter is node
                        self.assertTrue(behind_in or is_call_of(outer, WALKERS))

    def test_sets_are_neither_kept_nor_walked(self):
        for path, tree in trees().items():
            for node, outer in around(tree):
                if is_call_of(node, ("set", "frozenset")) or isinstance(node, ast.Set):
                    with self.subTest(path=path.name, line=node.lineno):
                        plain = is_call_of(outer, ("sorted", "len")) and not outer.keywords
                        self.assertTrue(plain or isinstance(outer, (ast.Compare, ast.BinOp)))


class Names(unittest.TestCase):
    def test_names_are_plain_and_no_name_of_python_is_given_another_meaning(self):
        for name, node in nodes(ast.AST):
            for bound in bound_names(node):
                if bound not in METHODS:
                    with self.subTest(file=name, name=bound):
                        self.assertRegex(bound, r"^[A-Za-z][A-Za-z0-9_]*$")
                        self.assertNotIn(bound, dir(builtins))

    def test_only_the_listed_names_and_methods_of_python(self):
        for name, node in nodes(ast.Name):
            if node.id in dir(builtins):
                with self.subTest(file=name, line=node.lineno):
                    self.assertIn(node.id, OWN_NAMES)
        for name, node in nodes(ast.Call):
            if isinstance(node.func, ast.Attribute):
                with self.subTest(file=name, line=node.lineno):
                    self.assertIn(node.func.attr, OWN_METHODS | own_methods())

    def test_values_of_objects(self):
        taken = {name for kind in (str, int, list, tuple, dict, set, bytes) for name in dir(kind)} - SHARED_VALUES
        for path, tree in trees().items():
            for node, outer in around(tree):
                if isinstance(node, ast.Attribute) and getattr(outer, "func", None) is not node:
                    with self.subTest(path=path.name, line=node.lineno):
                        self.assertFalse(node.attr in taken | own_methods(), node.attr)

    def test_no_local_is_called_like_a_class_or_an_import_of_its_file(self):
        for path, tree in trees().items():
            kinds = (ast.ImportFrom, ast.ClassDef)
            taken = [name for node in tree.body if isinstance(node, kinds) for name in bound_names(node)]
            for node in ast.walk(tree):
                if isinstance(node, (ast.Name, ast.arg)):
                    for bound in bound_names(node):
                        with self.subTest(path=path.name, line=node.lineno):
                            self.assertNotIn(bound, taken)


class Imports(unittest.TestCase):
    def test_each_name_is_drawn_from_the_file_that_defines_it(self):
        known = {f"{PACKAGE.name}.{path.stem}": defined_at_top(tree) for path, tree in trees().items()}
        for name, node in nodes(ast.ImportFrom):
            with self.subTest(file=name, line=node.lineno):
                self.assertEqual(node.level, 0)
                for alias in node.names:
                    self.assertIn(alias.name, known[node.module])

    def test_no_two_files_draw_from_one_another(self):
        drawn = {path.stem: [] for path in trees()}
        for name, node in nodes(ast.ImportFrom):
            drawn[name[:-3]].append(node.module.split(".")[-1])
        while drawn:
            free = [stem for stem, others in drawn.items() if not set(others) & set(drawn)]
            self.assertTrue(free, f"a ring among {sorted(drawn)}")
            for stem in free:
                drawn.pop(stem)


if __name__ == "__main__":
    unittest.main()
