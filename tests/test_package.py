"""The rules of LANGUAGE.md that are easily forgotten and easily seen in the source."""

import ast
import builtins
import pathlib
import re
import unittest

ROOT = pathlib.Path(__file__).resolve().parent.parent
PACKAGE = ROOT / "aboutface"
FILES = sorted(PACKAGE.glob("*.py"))

BARRED_WORDS = (
    "type typing typing_extensions enum Enum IntEnum StrEnum Flag IntFlag Generic Protocol ABC ABCMeta "
    "namedtuple NamedTuple TypedDict TYPE_CHECKING abstractmethod"
).split()
BARRED_PARTS = "dataclass overload contextmanager".split()
BARRED_NODES = (
    ast.Global, ast.AsyncFunctionDef, ast.AsyncFor, ast.AsyncWith, ast.Await, ast.Div, ast.MatMult, ast.Import,
)
ALLOWED_BUILTINS = (
    "len range enumerate zip min max sum abs sorted reversed int str bool bytes list tuple dict set frozenset "
    "isinstance ord repr any all divmod iter next Exception ValueError TypeError KeyError IndexError LookupError "
    "ZeroDivisionError ArithmeticError OverflowError RuntimeError NotImplementedError AttributeError StopIteration "
    "NotImplemented super property staticmethod classmethod"
).split()


VALUE_METHODS = (
    "append clear copy count endswith extend find get index insert isalnum isalpha isdigit islower isspace isupper "
    "items join keys ljust lower lstrip partition pop remove replace reverse rfind rjust rpartition rsplit rstrip "
    "setdefault split splitlines startswith strip update upper values zfill bit_length isascii"
).split()


def assigned_names(tree):
    """All names that the file gives to variables, parameters, functions and classes."""
    for node in ast.walk(tree):
        if isinstance(node, ast.Name) and not isinstance(node.ctx, ast.Load):
            yield node.id
        elif isinstance(node, ast.arg):
            yield node.arg
        elif isinstance(node, ast.ClassDef):
            yield node.name


def read_names(tree):
    return [node.id for node in ast.walk(tree) if isinstance(node, ast.Name) and isinstance(node.ctx, ast.Load)]


def own_methods(tree):
    return [
        one.name
        for node in ast.walk(tree) if isinstance(node, ast.ClassDef)
        for one in node.body if isinstance(one, ast.FunctionDef)
    ]


def own_attributes(tree):
    return [
        node.attr for node in ast.walk(tree) if isinstance(node, ast.Attribute) and isinstance(node.ctx, ast.Store)
    ]


class PackageTest(unittest.TestCase):
    def each_file(self):
        for path in FILES:
            with self.subTest(path.name):
                source = path.read_text(encoding="utf-8")
                yield source, ast.parse(source)

    def test_the_modules_exist(self):
        names = [path.stem for path in FILES]
        for name in ("__init__", "errors", "books", "beats", "counts", "rounds", "sums", "wishes", "goes", "small", "changes", "house",
                     "texts", "desk"):
            self.assertIn(name, names)

    def test_the_folder_holds_only_sources(self):
        others = [path.name for path in PACKAGE.iterdir() if path.suffix != ".py" and path.name != "__pycache__"]
        self.assertEqual(others, [])

    def test_sizes(self):
        for source, tree in self.each_file():
            lines = source.split("\n")
            self.assertLessEqual(len(lines), 400)
            self.assertLessEqual(max(len(line) for line in lines), 120)
            for node in ast.walk(tree):
                if isinstance(node, ast.FunctionDef):
                    self.assertLessEqual(node.end_lineno - node.lineno + 1, 40, node.name)

    def test_characters_and_words(self):
        for source, tree in self.each_file():
            self.assertEqual(re.findall(r"[^ -~\n]", source), [])
            words = re.findall(r"\w+", source)
            self.assertEqual([word for word in BARRED_WORDS if word in words], [])
            self.assertEqual([part for part in BARRED_PARTS if part in source], [])

    def test_imports_come_from_the_package(self):
        for source, tree in self.each_file():
            for node in ast.walk(tree):
                if isinstance(node, ast.ImportFrom):
                    self.assertEqual(node.level, 0)
                    self.assertTrue(node.module.startswith("aboutface."), node.module)

    def test_statements_and_numbers(self):
        for source, tree in self.each_file():
            for node in ast.walk(tree):
                self.assertNotIsInstance(node, BARRED_NODES)
                self.assertFalse(isinstance(node, ast.Constant) and isinstance(node.value, float))
                self.assertFalse(isinstance(node, ast.Constant) and isinstance(node.value, str) and "%" in node.value)

    def test_names(self):
        known = vars(builtins)
        for source, tree in self.each_file():
            for name in assigned_names(tree):
                self.assertFalse(name.startswith("_"), name)
                self.assertNotIn(name, known)
            for name in read_names(tree):
                self.assertTrue(name not in known or name in ALLOWED_BUILTINS, name)

    def test_no_name_of_an_import_is_given_away(self):
        for source, tree in self.each_file():
            brought = [name.name for node in tree.body if isinstance(node, ast.ImportFrom) for name in node.names]
            self.assertEqual(len(brought), len(set(brought)))
            self.assertEqual([name for name in assigned_names(tree) if name in brought], [])

    def test_imports_name_the_defining_file_and_are_used(self):
        for source, tree in self.each_file():
            used = read_names(tree)
            for node in tree.body:
                if isinstance(node, ast.ImportFrom):
                    other = ast.parse((ROOT / (node.module.replace(".", "/") + ".py")).read_text(encoding="utf-8"))
                    defined = [one.name for one in other.body if isinstance(one, (ast.FunctionDef, ast.ClassDef))]
                    for name in node.names:
                        self.assertIsNone(name.asname)
                        self.assertIn(name.name, defined)
                        self.assertIn(name.name, used)

    def test_powers_have_literal_exponents(self):
        for source, tree in self.each_file():
            for node in ast.walk(tree):
                if isinstance(node, ast.BinOp) and isinstance(node.op, ast.Pow):
                    self.assertIsInstance(node.right, ast.Constant)

    def test_generators_are_not_used(self):
        for source, tree in self.each_file():
            for node in ast.walk(tree):
                self.assertNotIsInstance(node, (ast.GeneratorExp, ast.Yield, ast.YieldFrom, ast.Lambda))

    def test_methods_and_attributes(self):
        trees = [ast.parse(path.read_text(encoding="utf-8")) for path in FILES]
        methods = {name for tree in trees for name in own_methods(tree)}
        attributes = {name for tree in trees for name in own_attributes(tree)}
        self.assertEqual(methods & attributes, set())
        for value in ("", 0, [], {}, set(), b"", ()):
            self.assertEqual([name for name in methods | attributes if name[0] != "_" and hasattr(value, name)], [])
        for tree in trees:
            called = [node.func.attr for node in ast.walk(tree)
                      if isinstance(node, ast.Call) and isinstance(node.func, ast.Attribute)]
            self.assertEqual([name for name in called if name not in methods and name not in VALUE_METHODS], [])

    def test_is_stands_only_with_none(self):
        for source, tree in self.each_file():
            for node in ast.walk(tree):
                if isinstance(node, ast.Compare) and any(isinstance(op, (ast.Is, ast.IsNot)) for op in node.ops):
                    self.assertIsNone(ast.literal_eval(node.comparators[0]))

    def test_only_own_errors_are_caught_and_raised(self):
        own = [node.name for node in ast.parse((PACKAGE / "errors.py").read_text(encoding="utf-8")).body
               if isinstance(node, ast.ClassDef)]
        for source, tree in self.each_file():
            for node in ast.walk(tree):
                if isinstance(node, ast.ExceptHandler):
                    caught = node.type.elts if isinstance(node.type, ast.Tuple) else [node.type]
                    self.assertEqual([one.id for one in caught if one.id not in own], [])
                if isinstance(node, ast.Raise) and node.exc is not None:
                    self.assertIn(node.exc.func.id, own)

    def test_no_circle_of_imports(self):
        needs = {}
        for path in FILES:
            tree = ast.parse(path.read_text(encoding="utf-8"))
            needs[f"aboutface.{path.stem}"] = [node.module for node in tree.body if isinstance(node, ast.ImportFrom)]
        while needs:
            free = [name for name in needs if not any(other in needs for other in needs[name])]
            self.assertNotEqual(free, [], sorted(needs))
            needs = {name: needs[name] for name in needs if name not in free}

    def test_builtins_are_called_without_keywords(self):
        for source, tree in self.each_file():
            for node in ast.walk(tree):
                if isinstance(node, ast.Call) and isinstance(node.func, ast.Name) and node.func.id in vars(builtins):
                    self.assertEqual(node.keywords, [])


if __name__ == "__main__":
    unittest.main()
