"""The form of the package: those rules of LANGUAGE.md that a short test can see."""

import ast
import re
import unittest
from pathlib import Path

PACKAGE = Path(__file__).resolve().parent.parent / "probeties"

BUILTINS = set("""
    len range enumerate zip min max sum abs sorted reversed int str bool bytes list tuple dict set frozenset
    isinstance ord repr any all divmod Exception ValueError TypeError KeyError IndexError LookupError
    ZeroDivisionError ArithmeticError OverflowError RuntimeError NotImplementedError AttributeError StopIteration
    NotImplemented property staticmethod classmethod super
""".split())
BARRED_NAMES = set("""
    register mro elements open input version_info with_traceback add_note attrgetter breakpoint builtins compile
    copyright credits delattr dir eval exec exit gc getattr globals hasattr help id importlib license locals
    methodcaller os quit setattr vars sys hash map next round filter iter print chr format format_map
""".split())
# Those of L25 that may be called everywhere.
BUILTIN_METHODS = set("""
    append clear copy count endswith extend find get index insert isalnum isalpha isdigit islower isspace isupper items
    join keys ljust lower lstrip partition pop remove replace reverse rfind rjust rpartition rsplit rstrip setdefault
    split splitlines startswith strip update upper values zfill bit_length
""".split())
BARRED_WORDS = re.compile(
    r"\b(type|typing|typing_extensions|enum|Enum|IntEnum|StrEnum|Flag|IntFlag|Generic|Protocol|ABC|ABCMeta|namedtuple"
    r"|NamedTuple|TypedDict|TYPE_CHECKING|abstractmethod)\b|dataclass|overload|contextmanager"
)
MODULE_LEVEL = (ast.ImportFrom, ast.FunctionDef, ast.ClassDef, ast.Assign)
BARRED_NODES = (
    ast.Import, ast.Global, ast.AsyncFunctionDef, ast.AsyncFor, ast.AsyncWith, ast.Await, ast.Div, ast.MatMult,
)


def names_bound(tree):
    """All names that a file binds at any place."""
    bound = set()
    for node in ast.walk(tree):
        if isinstance(node, (ast.FunctionDef, ast.ClassDef)):
            bound.add(node.name)
        elif isinstance(node, ast.arg):
            bound.add(node.arg)
        elif isinstance(node, ast.alias):
            bound.add(node.asname or node.name)
        elif isinstance(node, ast.Name) and isinstance(node.ctx, ast.Store):
            bound.add(node.id)
        elif isinstance(node, ast.ExceptHandler) and node.name:
            bound.add(node.name)
    return bound


class FormTest(unittest.TestCase):
    def setUp(self):
        self.files = {path: path.read_text() for path in sorted(PACKAGE.glob("*.py"))}
        self.trees = {path: ast.parse(text) for path, text in self.files.items()}

    def test_files(self):
        self.assertIn(PACKAGE / "__init__.py", self.files)
        for path in PACKAGE.iterdir():
            if path.name != "__pycache__":
                self.assertRegex(path.name, r"^(__init__|[a-z][a-z0-9_]*)\.py$")

    def test_sizes_and_characters(self):
        for path, text in self.files.items():
            self.assertLessEqual(len(text.splitlines()), 400, path)
            self.assertTrue(all(" " <= sign <= "~" or sign == "\n" for sign in text), path)
            self.assertTrue(all(len(line) <= 120 for line in text.splitlines()), path)
            for node in ast.walk(self.trees[path]):
                if isinstance(node, ast.FunctionDef):
                    self.assertLessEqual(node.end_lineno - node.lineno + 1, 40, (path, node.name))

    def test_words(self):
        for path, text in self.files.items():
            self.assertIsNone(BARRED_WORDS.search(text), path)
            for node in ast.walk(self.trees[path]):
                if isinstance(node, ast.Constant) and isinstance(node.value, str):
                    self.assertNotIn(chr(37), node.value, (path, node.lineno))

    def test_module_level(self):
        for path, tree in self.trees.items():
            self.assertIsNotNone(ast.get_docstring(tree), path)
            for node in tree.body[1:]:
                self.assertIsInstance(node, MODULE_LEVEL, (path, node.lineno))
            bound = [name for node in tree.body for name in self.bound_by(node)]
            self.assertEqual(len(bound), len(set(bound)), path)

    def bound_by(self, node):
        if isinstance(node, ast.ImportFrom):
            return [alias.asname or alias.name for alias in node.names]
        if isinstance(node, ast.Assign):
            return [target.id for target in node.targets]
        return [node.name] if isinstance(node, (ast.FunctionDef, ast.ClassDef)) else []

    def test_imports(self):
        for path, tree in self.trees.items():
            for node in ast.walk(tree):
                if not isinstance(node, ast.ImportFrom):
                    continue
                self.assertEqual(node.level, 0, path)
                source = PACKAGE / (node.module.removeprefix("probeties.") + ".py")
                self.assertIn(source, self.trees, (path, node.module))
                defined = [each.name for each in self.trees[source].body if hasattr(each, "name")]
                defined += [each.targets[0].id for each in self.trees[source].body if isinstance(each, ast.Assign)]
                for alias in node.names:
                    self.assertIn(alias.name, defined, path)

    def test_nodes(self):
        for path, tree in self.trees.items():
            for node in ast.walk(tree):
                self.assertNotIsInstance(node, BARRED_NODES, (path, node))
                if isinstance(node, ast.Constant):
                    self.assertNotIsInstance(node.value, (float, complex), (path, node.lineno))
                if isinstance(node, ast.Compare) and any(isinstance(op, (ast.Is, ast.IsNot)) for op in node.ops):
                    self.assertIn(ast.unparse(node.comparators[0]), ("None", "True", "False"), (path, node.lineno))

    def test_names(self):
        for path, tree in self.trees.items():
            bound = names_bound(tree)
            for name in bound:
                self.assertRegex(name, r"^([A-Za-z][A-Za-z0-9_]*|__[a-z]+__)$", path)
            self.assertFalse(bound & (BUILTINS | BARRED_NAMES), path)
            used = {node.id for node in ast.walk(tree) if isinstance(node, ast.Name)}
            self.assertFalse(used - bound - BUILTINS, path)

    def test_no_local_name_hides_one_of_the_file(self):
        for path, tree in self.trees.items():
            outer = {name for node in tree.body for name in self.bound_by(node)}
            for function in ast.walk(tree):
                if isinstance(function, ast.FunctionDef):
                    inner = set().union(*[names_bound(child) for child in ast.iter_child_nodes(function)])
                    self.assertFalse(inner & outer, (path, function.name))

    def test_attributes(self):
        nodes = [node for tree in self.trees.values() for node in ast.walk(tree)]
        classes = [node for node in nodes if isinstance(node, ast.ClassDef)]
        methods = {each.name for node in classes for each in node.body if isinstance(each, ast.FunctionDef)}
        stored = {node.attr for node in nodes if isinstance(node, ast.Attribute) and isinstance(node.ctx, ast.Store)}
        self.assertFalse(stored & (methods | BUILTIN_METHODS))
        read = {node.attr for node in nodes if isinstance(node, ast.Attribute) and isinstance(node.ctx, ast.Load)}
        self.assertFalse(read - stored - methods - BUILTIN_METHODS)
        self.assertFalse((stored | methods) & BARRED_NAMES)

    def test_no_set_is_iterated(self):
        for path, tree in self.trees.items():
            for node in ast.walk(tree):
                if isinstance(node, (ast.For, ast.comprehension)):
                    self.assertNotIsInstance(node.iter, (ast.Set, ast.SetComp), path)
                    self.assertFalse(ast.unparse(node.iter).startswith(("set(", "frozenset(")), path)

    def test_no_two_files_import_from_each_other(self):
        sources = {path.stem: self.sources_of(tree) for path, tree in self.trees.items()}
        free = []
        while len(free) < len(sources):
            more = [name for name in sources if name not in free and all(each in free for each in sources[name])]
            self.assertTrue(more, "files import from each other")
            free += more

    def sources_of(self, tree):
        return [node.module.removeprefix("probeties.") for node in tree.body if isinstance(node, ast.ImportFrom)]


if __name__ == "__main__":
    unittest.main()
