"""Holds the package's files to those rules of ../shared/LANGUAGE.md that can be read off the code."""

import ast
import builtins
import pathlib
import re
import unittest

PACKAGE = pathlib.Path(__file__).resolve().parent.parent / "slowshift"

NODES = """
Module Expr Constant ImportFrom alias FunctionDef arguments arg ClassDef Lambda
Assign AugAssign If While For Return Break Continue Pass Raise Try ExceptHandler
BinOp Add Sub Mult FloorDiv Mod Pow LShift RShift BitOr BitXor BitAnd
UnaryOp Not USub UAdd Invert BoolOp And Or Compare Eq NotEq Lt LtE Gt GtE Is IsNot In NotIn
IfExp Call keyword Attribute Subscript Slice Name Load Store List Tuple Dict Set ListComp comprehension
JoinedStr FormattedValue
""".split()

OWN_NAMES = """
len range enumerate zip min max sum abs sorted reversed int str bool list tuple dict set frozenset isinstance ord
repr any all divmod Exception ValueError TypeError KeyError IndexError LookupError ZeroDivisionError ArithmeticError
OverflowError RuntimeError NotImplementedError AttributeError StopIteration
""".split()

OWN_METHODS = """
append clear copy count endswith extend find get index insert isalnum isalpha isdigit islower isspace isupper items
join keys ljust lower lstrip partition pop remove replace reverse rfind rjust rpartition rsplit rstrip setdefault
split splitlines startswith strip update upper values zfill bit_length
""".split()

WORDS = """
type typing typing_extensions enum Enum IntEnum StrEnum Flag IntFlag Generic Protocol ABC ABCMeta namedtuple
NamedTuple TypedDict TYPE_CHECKING abstractmethod
""".split()

DUNDERS = ("__init__", "__eq__", "__repr__", "__str__", "__len__")


def files():
    return sorted(path for path in PACKAGE.rglob("*") if path.is_file() and "__pycache__" not in path.parts)


def trees():
    return [(path, ast.parse(path.read_text(encoding="utf-8"))) for path in files()]


def nodes(kinds):
    return [(path, node) for path, tree in trees() for node in ast.walk(tree) if isinstance(node, kinds)]


class LanguageTest(unittest.TestCase):
    def holds(self, rule, path, node, held):
        self.assertTrue(held, f"{rule}: {path.name}, line {getattr(node, 'lineno', 0)}")

    def test_files(self):
        self.assertIn(PACKAGE / "__init__.py", files())
        for path in files():
            self.assertRegex(path.name, r"\A[a-z0-9_]+\.py\Z")
            self.assertFalse(path.name.startswith("test"))

    def test_signs_and_sizes(self):
        for path in files():
            text = path.read_bytes().decode("utf-8")
            self.assertRegex(text, r"\A[ -~\n]*\Z", path.name)
            self.assertLessEqual(len(text.splitlines()), 400, path.name)
            self.assertLessEqual(max(len(line) for line in text.splitlines()), 120, path.name)

    def test_words_that_stand_nowhere(self):
        for path in files():
            text = path.read_text()
            self.assertEqual(sorted(set(re.findall(r"\w+", text)) & set(WORDS)), [], path.name)
            self.assertIsNone(re.search("dataclass|overload|contextmanager", text), path.name)

    def test_kinds_of_code(self):
        for path, node in nodes(ast.AST):
            self.holds("L6, L7", path, node, node.__class__.__name__ in NODES)

    def test_calls_alone_stand_by_themselves(self):
        for path, tree in trees():
            self.holds("L3", path, tree, ast.get_docstring(tree))
            for node in ast.walk(tree):
                if isinstance(node, ast.Expr) and node is not tree.body[0]:
                    self.holds("L6", path, node, isinstance(node.value, ast.Call))

    def test_values(self):
        for path, node in nodes(ast.Constant):
            self.holds("L7", path, node, node.value is None or isinstance(node.value, (int, str)))

    def test_functions(self):
        for path, node in nodes(ast.FunctionDef):
            plain = not (node.args.vararg or node.args.kwarg or node.args.kwonlyargs or node.args.posonlyargs)
            self.holds("L4", path, node, plain and not node.decorator_list)
            self.holds("L10", path, node, node.end_lineno - node.lineno < 40)

    def test_classes(self):
        for path, node in nodes(ast.ClassDef):
            plain = all(isinstance(part, (ast.FunctionDef, ast.Pass)) for part in node.body)
            self.holds("L5", path, node, plain and len(node.bases) < 2)
            self.holds("L5", path, node, not node.keywords and not node.decorator_list)

    def test_one_target(self):
        for path, node in nodes(ast.Assign):
            self.holds("L6", path, node, len(node.targets) == 1)

    def test_loops_without_else(self):
        for path, node in nodes((ast.For, ast.While)):
            self.holds("L6", path, node, not node.orelse)

    def test_comprehensions(self):
        for path, node in nodes(ast.ListComp):
            plain = len(node.generators) == 1 and len(node.generators[0].ifs) < 2
            self.holds("L7", path, node, plain)

    def test_is_stands_beside_none_and_truths(self):
        for path, node in nodes(ast.Compare):
            for operator, right in zip(node.ops, node.comparators):
                if isinstance(operator, (ast.Is, ast.IsNot)):
                    beside = isinstance(right, ast.Constant) and right.value in (None, True, False)
                    self.holds("L20", path, node, beside)

    def test_imports(self):
        for path, node in nodes(ast.ImportFrom):
            self.holds("L2", path, node, node.level == 0 and node.module.startswith("slowshift."))
            source = PACKAGE / (node.module.split(".")[1] + ".py")
            body = ast.parse(source.read_text()).body
            defined = [getattr(part, "name", None) for part in body]
            defined += [part.targets[0].id for part in body if isinstance(part, ast.Assign)]
            for name in node.names:
                self.holds("L16", path, node, name.name in defined and name.asname is None)

    def test_names(self):
        for path, node in nodes(ast.Name):
            self.holds("L12", path, node, not node.id.startswith("_"))
            if isinstance(node.ctx, ast.Load):
                self.holds("L8", path, node, node.id in OWN_NAMES or not hasattr(builtins, node.id))
            else:
                self.holds("L15", path, node, not hasattr(builtins, node.id))
        for path, node in nodes(ast.arg):
            self.holds("L15", path, node, not hasattr(builtins, node.arg) and not node.arg.startswith("_"))
        for path, node in nodes(ast.FunctionDef):
            self.holds("L12", path, node, not node.name.startswith("_") or node.name in DUNDERS)

    def test_attributes(self):
        methods = [node.name for path, node in nodes(ast.FunctionDef)]
        stored = [node.attr for path, node in nodes(ast.Attribute) if isinstance(node.ctx, ast.Store)]
        for path, node in nodes(ast.Attribute):
            known = node.attr in OWN_METHODS or node.attr in methods or node.attr in stored
            self.holds("L25", path, node, known or node.attr == "__init__")

    def test_no_two_files_draw_from_one_another(self):
        drawn = {path.stem: [] for path in files()}
        for path, node in nodes(ast.ImportFrom):
            drawn[path.stem].append(node.module.split(".")[1])
        while drawn:
            free = [name for name in drawn if not any(other in drawn for other in drawn[name])]
            self.assertTrue(free, f"L16: {sorted(drawn)}")
            for name in free:
                drawn.pop(name)

    def test_no_local_is_called_like_an_import_or_a_class(self):
        for path, tree in trees():
            taken = [part.name for part in tree.body if isinstance(part, ast.ClassDef)]
            for part in tree.body:
                taken += [name.name for name in part.names] if isinstance(part, ast.ImportFrom) else []
            for node in ast.walk(tree):
                if isinstance(node, ast.arg):
                    self.holds("L15", path, node, node.arg not in taken)
                if isinstance(node, ast.Name) and isinstance(node.ctx, ast.Store):
                    self.holds("L15", path, node, node.id not in taken)

    def test_sets_are_not_kept(self):
        beside = [argument for path, node in nodes(ast.Call) for argument in node.args
                  if isinstance(node.func, ast.Name) and node.func.id in ("len", "sorted")]
        for path, node in nodes(ast.Call):
            if isinstance(node.func, ast.Name) and node.func.id in ("set", "frozenset"):
                # Each walk over the files makes new nodes, so they are told apart by where they stand.
                held = any(ast.dump(node, include_attributes=True) == ast.dump(other, include_attributes=True)
                           for other in beside)
                self.holds("L24", path, node, held)

    def test_no_name_is_a_method_and_a_value(self):
        methods = [node.name for path, kind in nodes(ast.ClassDef) for node in kind.body if hasattr(node, "name")]
        for path, node in nodes(ast.Attribute):
            if isinstance(node.ctx, ast.Store):
                self.holds("L18", path, node, node.attr not in methods)


if __name__ == "__main__":
    unittest.main()
