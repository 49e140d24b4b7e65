"""The package keeps to the small part of Python it is to be written in: what of those rules can be seen in a tree."""

import ast
import builtins
import pathlib
import re
import unittest

FOLDER = pathlib.Path(__file__).resolve().parent.parent / "markedtext"
FILES = sorted(FOLDER.rglob("*.py"))

STATEMENTS = (
    ast.Assign, ast.AugAssign, ast.If, ast.While, ast.For, ast.Return, ast.Break, ast.Continue, ast.Pass, ast.Raise,
    ast.Try, ast.Expr, ast.FunctionDef, ast.ClassDef, ast.ImportFrom,
)
EXPRESSIONS = (
    ast.Constant, ast.Name, ast.List, ast.Tuple, ast.Dict, ast.BinOp, ast.UnaryOp, ast.BoolOp, ast.Compare, ast.IfExp,
    ast.Call, ast.Attribute, ast.Subscript, ast.Slice, ast.ListComp, ast.JoinedStr, ast.FormattedValue, ast.Lambda,
)
BUILTINS = set("""len range enumerate zip min max sum abs sorted reversed int str bool list tuple dict set frozenset
    isinstance ord repr any all divmod Exception ValueError TypeError KeyError IndexError LookupError ZeroDivisionError
    ArithmeticError OverflowError RuntimeError NotImplementedError AttributeError StopIteration""".split())
METHODS = set("""append clear copy count endswith extend find get index insert isalnum isalpha isdigit islower isspace
    isupper items join keys ljust lower lstrip partition pop remove replace reverse rfind rjust rpartition rsplit rstrip
    setdefault split splitlines startswith strip update upper values zfill bit_length""".split())
PYTHONS_OWN = set()
for owner in (str, int, list, dict, set, bytes, tuple):
    PYTHONS_OWN.update(name for name in dir(owner) if not name.startswith("_"))
WORDS = """type typing typing_extensions enum Enum IntEnum StrEnum Flag IntFlag Generic Protocol ABC ABCMeta namedtuple
    NamedTuple TypedDict TYPE_CHECKING abstractmethod""".split()
NOT_NAMES = set("""register mro elements open input version_info with_traceback add_note attrgetter breakpoint builtins
    compile copyright credits delattr dir eval exec exit gc getattr globals hasattr help id importlib license locals
    methodcaller os quit setattr super type vars sys""".split())


def trees():
    for path in FILES:
        yield path.name, ast.parse(path.read_text("utf-8"))


def nodes(*sorts):
    for name, tree in trees():
        for node in ast.walk(tree):
            if isinstance(node, sorts):
                yield name, node


def plain(node, defined):
    if isinstance(node, (ast.List, ast.Tuple)):
        return all(plain(part, defined) for part in node.elts)
    if isinstance(node, ast.Dict):
        return all(plain(part, defined) for part in node.keys + node.values)
    if isinstance(node, ast.UnaryOp):
        return isinstance(node.op, ast.USub) and isinstance(node.operand, ast.Constant)
    return isinstance(node, ast.Constant) or (isinstance(node, ast.Name) and node.id in defined)


class Language(unittest.TestCase):
    def test_files(self):
        self.assertIn("__init__.py", [path.name for path in FILES])
        for path in FOLDER.iterdir():
            if path.name != "__pycache__":
                self.assertRegex(path.name, r"^[a-z_0-9]+\.py$")

    def test_sizes_signs_and_words(self):
        for path in FILES:
            text = path.read_text("utf-8")
            self.assertLessEqual(len(text.splitlines()), 400, path.name)
            self.assertRegex(text, r"\A[ -~\n]*\Z", path.name)
            self.assertEqual([line for line in text.splitlines() if len(line) > 120], [], path.name)
            for word in WORDS:
                self.assertIsNone(re.search(rf"\b{word}\b", text), (path.name, word))
            self.assertIsNone(re.search("dataclass|overload|contextmanager", text), path.name)

    def test_functions(self):
        for name, node in nodes(ast.FunctionDef):
            self.assertLessEqual(node.end_lineno - node.lineno + 1, 40, (name, node.name))
            arguments = node.args
            extra = arguments.posonlyargs + arguments.kwonlyargs + node.decorator_list
            self.assertEqual((extra, arguments.vararg, arguments.kwarg, node.returns), ([], None, None, None), node.name)
            for argument in arguments.args:
                self.assertIsNone(argument.annotation)
                self.assertFalse(hasattr(builtins, argument.arg), (name, argument.arg))

    def test_statements_and_expressions(self):
        for name, node in nodes(ast.stmt, ast.expr):
            self.assertIsInstance(node, STATEMENTS + EXPRESSIONS, (name, node.lineno))
            if isinstance(node, ast.Assign):
                self.assertEqual(len(node.targets), 1, (name, node.lineno))
                self.assertNotIsInstance(node.targets[0], (ast.Tuple, ast.List), (name, node.lineno))
            if isinstance(node, (ast.For, ast.While)):
                self.assertEqual(node.orelse, [], (name, node.lineno))
            if isinstance(node, ast.BinOp):
                self.assertNotIsInstance(node.op, (ast.Div, ast.MatMult, ast.Pow), (name, node.lineno))
            if isinstance(node, ast.ListComp):
                self.assertEqual(len(node.generators), 1, (name, node.lineno))
            if isinstance(node, ast.Constant) and isinstance(node.value, str):
                self.assertNotIn("%", node.value, (name, node.lineno))
            elif isinstance(node, ast.Constant):
                self.assertIn(type(node.value), (int, bool, type(None)), (name, node.lineno))

    def test_names(self):
        for name, node in nodes(ast.Name, ast.Attribute):
            used = node.id if isinstance(node, ast.Name) else node.attr
            self.assertNotIn(used, NOT_NAMES, (name, node.lineno))
            self.assertFalse(used.startswith("_"), (name, node.lineno))
            if isinstance(node, ast.Name) and hasattr(builtins, used):
                self.assertIn(used, BUILTINS, (name, node.lineno))
                self.assertIsInstance(node.ctx, ast.Load, (name, node.lineno))
            if isinstance(node, ast.Attribute) and used in PYTHONS_OWN:
                self.assertIn(used, METHODS, (name, node.lineno))

    def test_the_top_of_files(self):
        for name, tree in trees():
            defined = []
            for place, node in enumerate(tree.body):
                if isinstance(node, ast.Assign):
                    self.assertTrue(plain(node.value, defined), (name, node.lineno))
                elif isinstance(node, ast.FunctionDef):
                    defined.append(node.name)
                elif isinstance(node, ast.Expr):
                    self.assertEqual(place, 0, (name, node.lineno))
                else:
                    self.assertIsInstance(node, (ast.ClassDef, ast.ImportFrom), (name, node.lineno))

    def test_imports(self):
        drawn = {}
        for name, tree in trees():
            drawn[name] = []
            for node in tree.body:
                if isinstance(node, ast.ImportFrom):
                    self.assertEqual((node.level, node.module.split(".")[0]), (0, "markedtext"), name)
                    drawn[name].append(node.module.split(".")[1] + ".py")
        while drawn:
            free = [name for name in drawn if not set(drawn[name]) & set(drawn)]
            self.assertNotEqual(free, [], "files draw from one another")
            for name in free:
                drawn.pop(name)

    def test_names_of_methods_and_values(self):
        methods = set()
        values = set()
        for _, node in nodes(ast.ClassDef):
            methods.update(part.name for part in node.body if isinstance(part, ast.FunctionDef))
        for _, node in nodes(ast.Attribute):
            if isinstance(node.ctx, ast.Store):
                values.add(node.attr)
        self.assertEqual(methods & values, set())

    def test_no_local_is_called_like_an_import_or_class(self):
        for name, tree in trees():
            taken = [alias.name for node in tree.body if isinstance(node, ast.ImportFrom) for alias in node.names]
            taken += [node.name for node in tree.body if isinstance(node, ast.ClassDef)]
            for node in ast.walk(tree):
                if isinstance(node, ast.Name) and isinstance(node.ctx, ast.Store):
                    self.assertNotIn(node.id, taken, (name, node.lineno))
                if isinstance(node, ast.arg):
                    self.assertNotIn(node.arg, taken, (name, node.lineno))


if __name__ == "__main__":
    unittest.main()
