"""The package's files keep to the rules of the language, as far as a look at their trees can tell."""

import ast
import builtins
import pathlib
import re
import unittest

FOLDER = pathlib.Path(__file__).resolve().parent.parent / "leastsigns"

STATEMENTS = (
    ast.Assign, ast.AugAssign, ast.If, ast.While, ast.For, ast.Return, ast.Break, ast.Continue, ast.Pass, ast.Raise,
    ast.Try, ast.Expr, ast.FunctionDef,
)
EXPRESSIONS = (
    ast.Constant, ast.List, ast.Tuple, ast.Dict, ast.BinOp, ast.UnaryOp, ast.BoolOp, ast.Compare, ast.IfExp, ast.Call,
    ast.Attribute, ast.Subscript, ast.Slice, ast.ListComp, ast.Name, ast.Lambda,
)
BUILT_IN = (
    "len range enumerate zip min max sum abs sorted reversed int str bool list tuple dict set frozenset isinstance ord "
    "repr any all divmod Exception ValueError TypeError KeyError IndexError LookupError ZeroDivisionError "
    "ArithmeticError OverflowError RuntimeError NotImplementedError AttributeError StopIteration"
).split()
METHODS = (
    "append clear copy count endswith extend find get index insert isalnum isalpha isdigit islower isspace isupper "
    "items join keys ljust lower lstrip partition pop remove replace reverse rfind rjust rpartition rsplit rstrip "
    "setdefault split splitlines startswith strip update upper values zfill bit_length"
).split()
WORDS_OUT = (
    "type typing typing_extensions enum Enum IntEnum StrEnum Flag IntFlag Generic Protocol ABC ABCMeta namedtuple "
    "NamedTuple TypedDict TYPE_CHECKING abstractmethod"
).split()
NAMES_OUT = (
    "register mro elements open input version_info with_traceback add_note attrgetter breakpoint builtins compile "
    "copyright credits delattr dir eval exec exit gc getattr globals hasattr help id importlib license locals "
    "methodcaller os quit setattr super vars sys chr"
).split()
OWN_BY_PYTHON = set()
for kind in (str, int, list, dict, set, bytes):
    OWN_BY_PYTHON.update(dir(kind))


def files():
    return sorted(path for path in FOLDER.iterdir() if path.name != "__pycache__")


def trees():
    return [(path.name, ast.parse(path.read_text("utf-8"))) for path in files()]


def functions(tree):
    return [node for node in ast.walk(tree) if isinstance(node, ast.FunctionDef)]


class Files(unittest.TestCase):
    def test_names_and_signs(self):
        self.assertIn("__init__.py", [path.name for path in files()])
        for path in files():
            self.assertRegex(path.name, r"^([a-z][a-z0-9_]*|__init__)\.py$")
            self.assertFalse(path.stem in dir(builtins) or path.stem.startswith("test"), path.name)
            text = path.read_bytes()
            self.assertTrue(all(octet == 10 or 32 <= octet <= 126 for octet in text), path.name)

    def test_sizes(self):
        for path in files():
            lines = path.read_text("utf-8").splitlines()
            self.assertLessEqual(len(lines), 400, path.name)
            self.assertLessEqual(max(len(line) for line in lines), 120, path.name)
        for name, tree in trees():
            for function in functions(tree):
                self.assertLessEqual(function.end_lineno + 1 - function.lineno, 40, (name, function.name))

    def test_words(self):
        for path in files():
            words = re.findall(r"\w+", path.read_text("utf-8"))
            for word in words:
                self.assertNotIn(word, WORDS_OUT, path.name)
                self.assertNotRegex(word, "dataclass|overload|contextmanager")


class Imports(unittest.TestCase):
    def test_from_the_file_that_defines_the_name(self):
        drawn = {}
        for name, tree in trees():
            drawn[name] = []
            for node in ast.walk(tree):
                self.assertNotIsInstance(node, ast.Import, name)
                if not isinstance(node, ast.ImportFrom):
                    continue
                self.assertEqual((node.level, node.module.split(".")[0]), (0, "leastsigns"))
                source = node.module.split(".")[1] + ".py"
                drawn[name].append(source)
                defined = top_names(dict(trees())[source])
                for alias in node.names:
                    self.assertIsNone(alias.asname)
                    self.assertIn(alias.name, defined, (name, source))
        left = dict(drawn)
        while left:
            free = [name for name in left if not any(source in left for source in left[name])]
            self.assertTrue(free, f"files draw from one another: {sorted(left)}")
            for name in free:
                left.pop(name)


def top_names(tree):
    names = []
    for node in tree.body:
        if isinstance(node, (ast.FunctionDef, ast.ClassDef)):
            names.append(node.name)
        elif isinstance(node, ast.Assign):
            names.append(node.targets[0].id)
    return names


def imported_names(tree):
    return [alias.name for node in tree.body if isinstance(node, ast.ImportFrom) for alias in node.names]


class Trees(unittest.TestCase):
    def test_top(self):
        for name, tree in trees():
            self.assertIsNotNone(ast.get_docstring(tree), name)
            for node in tree.body[1:]:
                self.assertIsInstance(node, (ast.ImportFrom, ast.FunctionDef, ast.ClassDef, ast.Assign), name)
            bound = top_names(tree) + imported_names(tree)
            self.assertEqual(len(bound), len(set(bound)), name)

    def test_top_lists_and_dicts_are_flat(self):
        for name, tree in trees():
            for node in tree.body:
                if isinstance(node, ast.Assign):
                    for inner in list(ast.walk(node.value))[1:]:
                        self.assertNotIsInstance(inner, (ast.List, ast.Dict, ast.Call, ast.ListComp, ast.BinOp), name)

    def test_statements_and_expressions(self):
        for name, tree in trees():
            for node in ast.walk(tree):
                if isinstance(node, ast.stmt) and not isinstance(node, (ast.ImportFrom, ast.ClassDef)):
                    self.assertIsInstance(node, STATEMENTS, (name, node.lineno))
                if isinstance(node, ast.expr):
                    self.assertIsInstance(node, EXPRESSIONS, (name, node.lineno))
                if isinstance(node, ast.Assign):
                    self.assertEqual(len(node.targets), 1)
                    self.assertNotIsInstance(node.targets[0], (ast.Tuple, ast.List), (name, node.lineno))
                if isinstance(node, (ast.For, ast.While)):
                    self.assertEqual(node.orelse, [], (name, node.lineno))
                if isinstance(node, ast.ListComp):
                    self.assertEqual(len(node.generators), 1)
                    self.assertLessEqual(len(node.generators[0].ifs), 1)
                if isinstance(node, (ast.Div, ast.Pow, ast.MatMult)):
                    self.fail(f"{name}: an operator that is out")
                if isinstance(node, ast.Constant):
                    self.assertIn(type(node.value), (int, str, bool, type(None)), (name, node.lineno))
                if isinstance(node, ast.Compare) and any(isinstance(op, (ast.Is, ast.IsNot)) for op in node.ops):
                    self.assertIsInstance(node.comparators[0].value, (bool, type(None)))

    def test_texts_stand_at_the_top_alone(self):
        for name, tree in trees():
            for node in ast.walk(tree):
                if isinstance(node, ast.Expr) and node is not tree.body[0]:
                    self.assertIsInstance(node.value, ast.Call, (name, node.lineno))

    def test_functions_and_classes_are_plain(self):
        for name, tree in trees():
            for node in functions(tree):
                told = node.args
                self.assertFalse(told.vararg or told.kwarg or told.kwonlyargs or told.posonlyargs, (name, node.name))
                self.assertFalse(node.decorator_list or node.returns, (name, node.name))
                self.assertFalse(any(arg.annotation for arg in told.args), (name, node.name))
            for node in ast.walk(tree):
                if isinstance(node, ast.ClassDef):
                    self.assertFalse(node.decorator_list or node.bases or node.keywords, (name, node.name))
                    self.assertTrue(all(isinstance(part, ast.FunctionDef) for part in node.body), (name, node.name))


class Names(unittest.TestCase):
    def test_no_name_of_pythons_own_is_bound(self):
        for name, tree in trees():
            taken = imported_names(tree) + [node.name for node in tree.body if isinstance(node, ast.ClassDef)]
            for bound in bound_names(tree):
                self.assertRegex(bound, r"^[A-Za-z][A-Za-z0-9_]*$", name)
                self.assertNotIn(bound, dir(builtins), name)
                self.assertNotIn(bound, taken, name)
                self.assertNotIn(bound, NAMES_OUT, name)

    def test_only_listed_names_of_pythons_own_are_used(self):
        for name, tree in trees():
            for node in ast.walk(tree):
                if isinstance(node, ast.Name):
                    self.assertNotIn(node.id, NAMES_OUT, (name, node.lineno))
                    if node.id in dir(builtins):
                        self.assertIn(node.id, BUILT_IN, (name, node.lineno))

    def test_methods_and_values_of_objects(self):
        methods, values, used = {}, {}, {}
        for name, tree in trees():
            for node in ast.walk(tree):
                if isinstance(node, ast.ClassDef):
                    own = [part.name for part in node.body]
                    self.assertEqual(len(own), len(set(own)), (name, node.name))
                    methods.update((one, name) for one in own if one != "__init__")
                if isinstance(node, ast.Attribute):
                    if isinstance(node.ctx, ast.Store):
                        values[node.attr] = name
                    used[node.attr] = name
        self.assertEqual(set(methods) & set(values), set())
        self.assertEqual((set(methods) | set(values)) & OWN_BY_PYTHON, set())
        self.assertEqual(set(used) - set(methods) - set(values) - set(METHODS), set())

    def test_walked_at_once(self):
        walked = ("range", "zip", "enumerate", "reversed", "items", "keys", "values")
        for name, tree in trees():
            fit = []
            for node in ast.walk(tree):
                if isinstance(node, (ast.For, ast.comprehension)):
                    fit.append(node.iter)
                if isinstance(node, ast.Call) and called(node) in ("list", "tuple", "dict", "sorted", "sum", "any", "all"):
                    fit.extend(node.args[:1])
            for node in ast.walk(tree):
                if isinstance(node, ast.Call) and called(node) in walked:
                    self.assertIn(node, fit, (name, node.lineno))


def called(call):
    return call.func.id if isinstance(call.func, ast.Name) else getattr(call.func, "attr", "")


def bound_names(tree):
    bound = []
    for node in ast.walk(tree):
        if isinstance(node, ast.arg):
            bound.append(node.arg)
        elif isinstance(node, ast.Name) and isinstance(node.ctx, ast.Store):
            bound.append(node.id)
    return bound


if __name__ == "__main__":
    unittest.main()
