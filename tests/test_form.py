"""The form of the package's files: those rules of the language that can be seen row by row."""

import ast
import builtins
import os
import re
import unittest

TOP = os.path.dirname(os.path.dirname(os.path.abspath(__file__)))
PACKAGE = os.path.join(TOP, "tierstore")

NODES = """
Module FunctionDef ClassDef arguments arg Return Assign AugAssign For While If Raise Try ExceptHandler Expr Pass
Break Continue Import ImportFrom alias BoolOp And Or BinOp Add Sub Mult FloorDiv Mod Pow LShift RShift BitOr BitXor
BitAnd UnaryOp Not USub UAdd Invert Lambda IfExp Dict Set List Tuple ListComp comprehension Compare Eq NotEq Lt LtE
Gt GtE Is IsNot In NotIn Call keyword FormattedValue JoinedStr Constant Attribute Subscript Slice Name Load Store
""".split()
OWN_NAMES = """
len range enumerate zip min max sum abs sorted reversed int str bool list tuple dict set frozenset isinstance ord repr
any all divmod Exception ValueError TypeError KeyError IndexError LookupError ZeroDivisionError ArithmeticError
OverflowError RuntimeError NotImplementedError AttributeError StopIteration
""".split()
METHODS = """
append clear copy count endswith extend find get index insert isalnum isalpha isdigit islower isspace isupper items
join keys ljust lower lstrip partition pop remove replace reverse rfind rjust rpartition rsplit rstrip setdefault split
splitlines startswith strip update upper values zfill bit_length
""".split()
TWO_UNDERSCORES = ["__init__", "__eq__", "__repr__", "__str__", "__len__"]
WORDS = re.compile(
    r"\b(type|typing|typing_extensions|enum|Enum|IntEnum|StrEnum|Flag|IntFlag|Generic|Protocol|ABC|ABCMeta|namedtuple"
    r"|NamedTuple|TypedDict|TYPE_CHECKING|abstractmethod)\b|dataclass|overload|contextmanager"
)
NEVER = """
register mro elements open input version_info with_traceback add_note format format_map attrgetter breakpoint builtins
compile delattr dir eval exec exit gc getattr globals hasattr help id importlib locals methodcaller os quit setattr
super type vars sys
""".split()
KEYWORDS = {"sorted": ["key", "reverse"], "min": ["key", "default"], "max": ["key", "default"], "sum": ["start"],
            "enumerate": ["start"], "zip": ["strict"]}
WALKED = ["zip", "enumerate", "reversed", "range"]
WALKED_METHODS = ["items", "keys", "values"]
WALKERS = "list tuple dict sorted sum any all enumerate zip min max join".split()
NOT_AS_VALUES = """
items keys values pop update append clear extend insert remove reverse setdefault sort args encode format
""".split()


def python_files():
    return [name for name in sorted(os.listdir(PACKAGE)) if name != "__pycache__"]


def text_of(name):
    with open(os.path.join(PACKAGE, name), "rb") as file:
        return file.read().decode("utf-8")


def names_bound(tree):
    bound = [node.arg for node in ast.walk(tree) if isinstance(node, ast.arg)]
    bound += [node.name for node in ast.walk(tree) if isinstance(node, (ast.FunctionDef, ast.ClassDef))]
    names = [node for node in ast.walk(tree) if isinstance(node, ast.Name)]
    return bound + [node.id for node in names if isinstance(node.ctx, ast.Store)]


def called(node):
    """The name by which a call calls, None of what is no call."""
    if not isinstance(node, ast.Call):
        return None
    return getattr(node.func, "attr", None) or getattr(node.func, "id", None)


def is_walked_at_once(node):
    name = called(node)
    return name in WALKED_METHODS if isinstance(getattr(node, "func", None), ast.Attribute) else name in WALKED


def places_of_a_walk(tree):
    """What stands where it is walked on the spot."""
    places = [node.iter for node in ast.walk(tree) if isinstance(node, (ast.For, ast.comprehension))]
    calls = [node for node in ast.walk(tree) if called(node) in WALKERS]
    return places + [argument for node in calls for argument in node.args]


def drawn_from(name):
    rows = [node for node in ast.walk(ast.parse(text_of(name))) if isinstance(node, ast.ImportFrom)]
    return [node.module.partition(".")[2] + ".py" for node in rows]


def is_docstring(node):
    return isinstance(node, ast.Expr) and isinstance(node.value, ast.Constant) and isinstance(node.value.value, str)


class Form(unittest.TestCase):
    def each_node(self, check, *kinds):
        for name in python_files():
            for node in ast.walk(ast.parse(text_of(name))):
                if isinstance(node, kinds):
                    with self.subTest(file=name, line=getattr(node, "lineno", 0)):
                        check(node)

    def test_files(self):
        self.assertIn("__init__.py", python_files())
        for name in python_files():
            self.assertRegex(name, r"\A([a-z][a-z0-9_]*|__init__|__main__)\.py\Z")

    def test_signs_and_sizes(self):
        for name in python_files():
            with self.subTest(name):
                rows = text_of(name).split("\n")
                self.assertLessEqual(len(rows), 401)
                self.assertLessEqual(max(len(row) for row in rows), 120)
                self.assertRegex(text_of(name), r"\A[ -~\n]*\Z")
                self.assertIsNone(WORDS.search(text_of(name)))

    def test_functions(self):
        def check(node):
            self.assertEqual(node.decorator_list, [])
            self.assertLessEqual(node.end_lineno - node.lineno + 1, 40)
            self.assertEqual((node.args.vararg, node.args.kwarg, node.args.kwonlyargs), (None, None, []))
        self.each_node(check, ast.FunctionDef)

    def test_classes(self):
        def check(node):
            self.assertEqual(node.decorator_list, [])
            self.assertLessEqual(len(node.bases), 1)
            for row in node.body:
                self.assertIsInstance(row, (ast.FunctionDef, ast.Pass))
        self.each_node(check, ast.ClassDef)

    def test_the_top_of_a_file(self):
        def check(tree):
            self.assertTrue(is_docstring(tree.body[0]))
            for row in tree.body[1:]:
                self.assertIsInstance(row, (ast.ImportFrom, ast.FunctionDef, ast.ClassDef, ast.Assign))
        self.each_node(check, ast.Module)

    def test_imports_are_of_the_own_files_alone(self):
        def check(node):
            self.assertIsInstance(node, ast.ImportFrom)
            self.assertEqual(node.level, 0)
            self.assertRegex(node.module, r"\Atierstore\.[a-z]+\Z")
            self.assertNotIn("*", [drawn.name for drawn in node.names])
        self.each_node(check, ast.Import, ast.ImportFrom)

    def test_only_the_statements_and_expressions_that_are_told(self):
        self.each_node(lambda node: self.assertIn(node.__class__.__name__, NODES), ast.AST)

    def test_one_target_in_an_assignment(self):
        self.each_node(lambda node: self.assertEqual(len(node.targets), 1), ast.Assign)

    def test_no_else_behind_a_loop_and_no_finally(self):
        self.each_node(lambda node: self.assertEqual(node.orelse, []), ast.For, ast.While)
        self.each_node(lambda node: self.assertEqual(node.finalbody, []), ast.Try)

    def test_is_stands_beside_none_and_truths_alone(self):
        def check(node):
            if isinstance(node.ops[0], (ast.Is, ast.IsNot)):
                self.assertIn(getattr(node.comparators[0], "value", 0.5), (None, True, False))
        self.each_node(check, ast.Compare)

    def test_plain_values(self):
        def check(node):
            self.assertIsInstance(node.value, (int, str, type(None)))
            self.assertNotIn("%", str(node.value))
        self.each_node(check, ast.Constant)

    def test_exponents_are_written(self):
        def check(node):
            self.assertTrue(not isinstance(node.op, ast.Pow) or isinstance(node.right, ast.Constant))
        self.each_node(check, ast.BinOp)

    def test_names_that_are_bound(self):
        def check(tree):
            for name in names_bound(tree):
                self.assertTrue(name in TWO_UNDERSCORES or re.match(r"[A-Za-z]\w*\Z", name), name)
                self.assertNotIn(name, dir(builtins))
        self.each_node(check, ast.Module)

    def test_names_that_are_used(self):
        def check(node):
            self.assertNotIn(node.id, NEVER)
            self.assertTrue(node.id in OWN_NAMES or node.id not in dir(builtins), node.id)
        self.each_node(check, ast.Name)

    def test_methods_are_own_ones_or_those_that_are_told(self):
        own = []
        for name in python_files():
            own += names_bound(ast.parse(text_of(name)))

        def check(node):
            if isinstance(node.func, ast.Attribute):
                self.assertIn(node.func.attr, METHODS + own)
        self.each_node(check, ast.Call)

    def test_keywords_at_pythons_own(self):
        def check(node):
            if called(node) in OWN_NAMES + METHODS:
                for keyword in node.keywords:
                    self.assertIn(keyword.arg, KEYWORDS.get(called(node), []))
        self.each_node(check, ast.Call)

    def test_what_is_walked_is_walked_at_once(self):
        def check(tree):
            places = places_of_a_walk(tree)
            for node in ast.walk(tree):
                self.assertTrue(not is_walked_at_once(node) or any(node is place for place in places), ast.dump(node))
        self.each_node(check, ast.Module)

    def test_a_comprehension_has_one_for_and_at_most_one_if(self):
        def check(node):
            self.assertEqual(len(node.generators), 1)
            self.assertLessEqual(len(node.generators[0].ifs), 1)
        self.each_node(check, ast.ListComp)

    def test_no_local_is_called_like_an_import_or_a_class(self):
        def check(tree):
            rows = [node for node in ast.walk(tree) if isinstance(node, ast.ImportFrom)]
            taken = [drawn.name for node in rows for drawn in node.names]
            taken += [node.name for node in ast.walk(tree) if isinstance(node, ast.ClassDef)]
            names = [node for node in ast.walk(tree) if isinstance(node, ast.Name)]
            bound = [node.id for node in names if isinstance(node.ctx, ast.Store)]
            bound += [node.arg for node in ast.walk(tree) if isinstance(node, ast.arg)]
            self.assertEqual([name for name in bound if name in taken], [])
        self.each_node(check, ast.Module)

    def test_no_name_is_a_method_in_one_class_and_a_value_in_another(self):
        nodes = [node for name in python_files() for node in ast.walk(ast.parse(text_of(name)))]
        classes = [node for node in nodes if isinstance(node, ast.ClassDef)]
        methods = [row.name for node in classes for row in node.body if isinstance(row, ast.FunctionDef)]
        values = [node.attr for node in nodes if isinstance(node, ast.Attribute) and isinstance(node.ctx, ast.Store)]
        self.assertEqual([name for name in values if name in methods + NOT_AS_VALUES], [])

    def test_errors_are_taken_by_name(self):
        def check(node):
            self.assertIsNotNone(node.type)
            self.assertNotIn(getattr(node.type, "id", ""), ["Exception", "TypeError"])
        self.each_node(check, ast.ExceptHandler)

    def test_no_two_files_draw_from_one_another(self):
        left = {name: drawn_from(name) for name in python_files()}
        while left:
            free = [name for name in left if not any(drawn in left for drawn in left[name])]
            self.assertNotEqual(free, [], left)
            for name in free:
                left.pop(name)


if __name__ == "__main__":
    unittest.main()
