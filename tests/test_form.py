"""Some of the rules of ../shared/LANGUAGE.md, each in part; the numbers stand by the tests."""

import ast
import builtins
import pathlib
import re
import unittest

PACKAGE = pathlib.Path(__file__).resolve().parent.parent / "corehouse"

ALLOWED = """
Module FunctionDef arguments arg ClassDef Lambda Return Assign AugAssign AnnAssign For While If Raise Try
ExceptHandler ImportFrom alias Expr Pass Break Continue BoolOp And Or BinOp Add Sub Mult FloorDiv Mod Pow
BitAnd BitOr BitXor LShift RShift UnaryOp Not USub UAdd Invert IfExp Dict Set List Tuple ListComp
comprehension Compare Eq NotEq Lt LtE Gt GtE Is IsNot In NotIn Call keyword JoinedStr FormattedValue
Constant Attribute Subscript Slice Name Load Store
""".split()

BUILT_IN = """
len range enumerate zip min max sum abs sorted reversed int str bool list tuple dict set frozenset isinstance
ord repr any all divmod Exception ValueError TypeError KeyError IndexError LookupError ZeroDivisionError
ArithmeticError OverflowError RuntimeError NotImplementedError AttributeError StopIteration object
""".split()

METHODS = ["__init__", "__eq__", "__repr__", "__str__", "__len__"]

BAD_WORDS = re.compile(
    r"\b(type|typing|typing_extensions|enum|Enum|IntEnum|StrEnum|Flag|IntFlag|Generic|Protocol|ABC|ABCMeta"
    r"|namedtuple|NamedTuple|TypedDict|TYPE_CHECKING|abstractmethod)\b|dataclass|overload|contextmanager"
)
BAD_NAMES = """
register mro elements open input version_info with_traceback add_note format format_map attrgetter breakpoint
builtins compile copyright credits delattr dir eval exec exit gc getattr globals hasattr help id importlib
license locals methodcaller os quit setattr super vars
""".split()

# L25: the methods of Python's own values that are called.
OWN_METHODS = """
append clear copy count endswith extend find get index insert isalnum isalpha isdigit islower isspace isupper
items join keys ljust lower lstrip partition pop remove replace reverse rfind rjust rpartition rsplit rstrip
setdefault split splitlines startswith strip update upper values zfill bit_length
""".split()
# L26: the names of Python's own values that a value of an object may have all the same.
FREE_VALUES = "count index title find get join lower upper split strip copy add".split()
TAKEN_VALUES = {name for kind in (str, int, list, tuple, dict, set, frozenset, bytes) for name in dir(kind)}
KEYWORDS = {
    "sorted": ["key", "reverse"],
    "min": ["key", "default"],
    "max": ["key", "default"],
    "sum": ["start"],
    "enumerate": ["start"],
    "zip": ["strict"],
}
WALKED = ("zip", "enumerate", "reversed", "range")
WALKED_IN = ("list", "tuple", "dict", "sorted", "sum", "any", "all", "enumerate", "zip", "min", "max")


def nodes(tree, *kinds):
    return [node for node in ast.walk(tree) if isinstance(node, kinds)]


def names_bound(tree):
    bound = [node.id for node in nodes(tree, ast.Name) if isinstance(node.ctx, ast.Store)]
    bound += [node.arg for node in nodes(tree, ast.arg)]
    bound += [node.name for node in nodes(tree, ast.FunctionDef, ast.ClassDef)]
    return bound


def called(node):
    """The name that a call calls, or None."""
    return node.func.id if isinstance(node, ast.Call) and isinstance(node.func, ast.Name) else None


def drawn_files(tree):
    return [node.module.split(".")[1] + ".py" for node in nodes(tree, ast.ImportFrom)]


class FormTest(unittest.TestCase):
    def setUp(self):
        self.files = {}
        for path in sorted(PACKAGE.glob("*.py")):
            text = path.read_bytes().decode("ascii")
            self.files[path.name] = (text, ast.parse(text))

    def each(self):
        for name, (text, tree) in self.files.items():
            with self.subTest(file=name):
                yield name, text, tree

    def test_files(self):
        """L1, L14"""
        for path in PACKAGE.iterdir():
            if path.name != "__pycache__":
                self.assertRegex(path.name, r"^[a-z0-9_]+\.py$")
        self.assertIn("__init__.py", self.files)

    def test_signs_sizes_and_words(self):
        """L10, L14, L17"""
        for name, text, tree in self.each():
            rows = text.split("\n")
            self.assertRegex(text, r"\A[\n -~]*\Z")
            self.assertLessEqual(len(rows), 400)
            self.assertLessEqual(max(len(row) for row in rows), 120)
            self.assertIsNone(BAD_WORDS.search(text))
            for node in nodes(tree, ast.FunctionDef):
                self.assertLessEqual(node.end_lineno - node.lineno + 1, 40, node.name)

    def test_statements_and_expressions(self):
        """L6, L7, L20"""
        for name, text, tree in self.each():
            for node in nodes(tree, ast.AST):
                self.assertIn(type(node).__name__, ALLOWED, getattr(node, "lineno", None))
            for node in nodes(tree, ast.Assign):
                self.assertEqual(len(node.targets), 1, node.lineno)
            for node in nodes(tree, ast.For, ast.While):
                self.assertEqual(node.orelse, [], node.lineno)
            for node in nodes(tree, ast.Constant):
                self.assertIn(type(node.value), (int, str, bool, type(None)), node.lineno)
            for node in nodes(tree, ast.ListComp):
                self.assertEqual(len(node.generators), 1, node.lineno)
                self.assertLessEqual(len(node.generators[0].ifs), 1, node.lineno)
            for node in nodes(tree, ast.FormattedValue):
                self.assertIsInstance(node.value, ast.Name, node.lineno)
                self.assertIsNone(node.format_spec, node.lineno)
            for node in nodes(tree, ast.Compare):
                if any(isinstance(sign, (ast.Is, ast.IsNot)) for sign in node.ops):
                    self.assertIn(getattr(node.comparators[0], "value", 0), (None, True, False), node.lineno)

    def test_imports(self):
        """L2, L16"""
        for name, text, tree in self.each():
            for node in nodes(tree, ast.ImportFrom):
                self.assertIn(node, tree.body)
                self.assertEqual(node.level, 0)
                parts = node.module.split(".")
                self.assertEqual(parts[0], "corehouse")
                self.assertEqual(len(parts), 2)
                drawn_from = self.files[parts[1] + ".py"][1]
                defined = [kind.name for kind in drawn_from.body if isinstance(kind, (ast.FunctionDef, ast.ClassDef))]
                defined += [kind.targets[0].id for kind in drawn_from.body if isinstance(kind, ast.Assign)]
                for drawn in node.names:
                    self.assertIn(drawn.name, defined)

    def test_names(self):
        """L8, L12, L15, L17"""
        for name, text, tree in self.each():
            at_top = [node.name for node in nodes(tree, ast.ClassDef)]
            at_top += [drawn.asname or drawn.name for node in nodes(tree, ast.ImportFrom) for drawn in node.names]
            for bound in names_bound(tree):
                if bound not in METHODS:
                    self.assertRegex(bound, r"^[A-Za-z][A-Za-z0-9_]*$")
                    self.assertFalse(hasattr(builtins, bound), bound)
            local = [node.arg for node in nodes(tree, ast.arg)]
            local += [node.id for node in nodes(tree, ast.Name) if isinstance(node.ctx, ast.Store)]
            self.assertEqual(set(local) & set(at_top), set())
            known = names_bound(tree) + at_top + BUILT_IN
            for node in nodes(tree, ast.Name):
                self.assertIn(node.id, known, node.lineno)
                self.assertNotIn(node.id, BAD_NAMES, node.lineno)
            for node in nodes(tree, ast.Attribute):
                self.assertNotIn(node.attr, BAD_NAMES[:10], node.lineno)
                self.assertTrue(node.attr in METHODS or not node.attr.startswith("_"), node.lineno)

    def test_top_of_a_file(self):
        """L3, L4, L5, L15"""
        for name, text, tree in self.each():
            kinds = (ast.ImportFrom, ast.FunctionDef, ast.ClassDef, ast.Assign)
            self.assertIsNotNone(ast.get_docstring(tree))
            for node in tree.body[1:]:
                self.assertIsInstance(node, kinds)
            bound = [node.name for node in tree.body if isinstance(node, (ast.FunctionDef, ast.ClassDef))]
            bound += [node.targets[0].id for node in tree.body if isinstance(node, ast.Assign)]
            self.assertEqual(len(bound), len(set(bound)))
            for node in tree.body:
                if isinstance(node, ast.Assign):
                    # Narrower than the rules: no list and no dict either, so that nothing there can be changed.
                    self.assertIsInstance(ast.literal_eval(node.value), (int, str, tuple), node.lineno)
            for node in nodes(tree, ast.FunctionDef, ast.ClassDef):
                self.assertEqual(node.decorator_list, [])
            for node in nodes(tree, ast.ClassDef):
                self.assertIn(node, tree.body)
                self.assertLessEqual(len(node.bases), 1)
                for inner in node.body:
                    self.assertIsInstance(inner, (ast.FunctionDef, ast.Pass))
            for node in nodes(tree, ast.arguments):
                self.assertEqual((node.vararg, node.kwarg, node.kwonlyargs, node.posonlyargs), (None, None, [], []))

    def test_no_two_files_draw_from_one_another(self):
        """L16"""
        for name, text, tree in self.each():
            reached = []
            ahead = drawn_files(tree)
            while ahead:
                file = ahead.pop()
                if file not in reached:
                    reached.append(file)
                    ahead += drawn_files(self.files[file][1])
            self.assertNotIn(name, reached)

    def test_methods_and_values(self):
        """L18, L25, L26"""
        methods = []
        values = []
        for text, tree in self.files.values():
            for kind in nodes(tree, ast.ClassDef):
                methods += [inner.name for inner in kind.body if isinstance(inner, ast.FunctionDef)]
            values += [node.attr for node in nodes(tree, ast.Attribute) if isinstance(node.ctx, ast.Store)]
        self.assertEqual(set(methods) & set(values), set())
        self.assertEqual((set(values) & TAKEN_VALUES) - set(FREE_VALUES), set())
        for name, text, tree in self.each():
            for node in nodes(tree, ast.Call):
                if isinstance(node.func, ast.Attribute):
                    self.assertIn(node.func.attr, OWN_METHODS + methods, node.lineno)

    def test_keywords(self):
        """L22"""
        for name, text, tree in self.each():
            for node in nodes(tree, ast.Call):
                known = KEYWORDS.get(called(node), [])
                if called(node) in BUILT_IN or isinstance(node.func, ast.Attribute):
                    for word in node.keywords:
                        self.assertIn(word.arg, known, node.lineno)

    def test_walked_at_once(self):
        """L23"""
        for name, text, tree in self.each():
            walked = [node.iter for node in nodes(tree, ast.For, ast.comprehension)]
            walked += [node.args[0] for node in nodes(tree, ast.Call) if called(node) in WALKED_IN and node.args]
            for node in nodes(tree, ast.Call):
                if called(node) in WALKED:
                    self.assertIn(node, walked, node.lineno)

    def test_numbers_and_texts(self):
        """L27"""
        for name, text, tree in self.each():
            for node in nodes(tree, ast.Constant):
                if isinstance(node.value, str):
                    self.assertNotIn("%", node.value, node.lineno)
            for node in nodes(tree, ast.BinOp):
                if isinstance(node.op, ast.Pow):
                    self.assertIn(getattr(node.right, "value", None), range(65), node.lineno)


if __name__ == "__main__":
    unittest.main()
