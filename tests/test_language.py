"""Those rules of the language that are plain to check: how the package is written."""

import ast
import builtins
import os
import re
import unittest

PACKAGE = os.path.join(os.path.dirname(os.path.dirname(os.path.abspath(__file__))), "momentwright")

BUILTINS = (
    "len range enumerate zip min max sum abs sorted reversed int str bool bytes list tuple dict set frozenset "
    "isinstance ord repr any all divmod Exception ValueError TypeError KeyError IndexError LookupError "
    "ZeroDivisionError ArithmeticError OverflowError RuntimeError NotImplementedError AttributeError StopIteration"
).split()

METHODS = (
    "append clear copy count endswith extend find get index insert isalnum isalpha isdigit islower isspace isupper "
    "items join keys ljust lower lstrip partition pop remove replace reverse rfind rjust rpartition rsplit rstrip "
    "setdefault split splitlines startswith strip update upper values zfill bit_length sort"
).split()

BARRED_WORDS = re.compile(
    r"\b(type|typing|typing_extensions|enum|Enum|IntEnum|StrEnum|Flag|IntFlag|Generic|Protocol|ABC|ABCMeta|namedtuple"
    r"|NamedTuple|TypedDict|TYPE_CHECKING|abstractmethod)\b|dataclass|overload|contextmanager"
)

BARRED_NODES = (
    ast.With, ast.Match, ast.Global, ast.Nonlocal, ast.Yield, ast.YieldFrom, ast.AsyncFunctionDef, ast.Await,
    ast.GeneratorExp, ast.NamedExpr, ast.Div, ast.MatMult,
)


def sources():
    """Tuples (name, text, tree) of the files of the package."""
    told = []
    for name in sorted(os.listdir(PACKAGE)):
        if name.endswith(".py"):
            with open(os.path.join(PACKAGE, name), encoding="utf-8") as file:
                text = file.read()
            told.append((name, text, ast.parse(text)))
    return told


def bound_names(tree):
    """The names of variables, parameters, functions and classes that a file binds by itself."""
    for node in ast.walk(tree):
        if isinstance(node, ast.Name) and isinstance(node.ctx, ast.Store):
            yield node.id
        elif isinstance(node, ast.arg):
            yield node.arg
        elif isinstance(node, (ast.FunctionDef, ast.ClassDef)):
            yield node.name


class TestLanguage(unittest.TestCase):
    def test_the_folder_holds_python_files_only(self):
        names = [name for name in os.listdir(PACKAGE) if name != "__pycache__"]
        self.assertIn("__init__.py", names)
        for name in names:
            self.assertRegex(name, r"^(__init__|__main__|[a-z][a-z0-9_]*)\.py$")

    def test_sizes_and_signs(self):
        for name, text, tree in sources():
            self.assertRegex(text, r"^[ -~\n]*$", name)
            lines = text.split("\n")
            self.assertLessEqual(len(lines), 400, name)
            self.assertLessEqual(max(len(line) for line in lines), 120, name)
            for node in ast.walk(tree):
                if isinstance(node, ast.FunctionDef):
                    self.assertLessEqual(node.end_lineno - node.lineno + 1, 40, node.name)

    def test_words_and_nodes_that_are_barred(self):
        for name, text, tree in sources():
            self.assertIsNone(BARRED_WORDS.search(text), name)
            for node in ast.walk(tree):
                self.assertNotIsInstance(node, BARRED_NODES, name)
                if isinstance(node, ast.Constant):
                    self.assertNotIsInstance(node.value, (float, complex), name)
                    self.assertNotIn("%", str(node.value), name)
                if isinstance(node, (ast.For, ast.While)):
                    self.assertEqual(node.orelse, [], name)
                if isinstance(node, (ast.FunctionDef, ast.ClassDef)):
                    self.assertEqual(node.decorator_list, [], name)
                if isinstance(node, ast.BinOp) and isinstance(node.op, ast.Pow):
                    self.assertIsInstance(node.right, ast.Constant, name)

    def test_module_level(self):
        allowed = (ast.ImportFrom, ast.FunctionDef, ast.ClassDef, ast.Assign)
        for name, _, tree in sources():
            for node in tree.body[1:]:
                self.assertIsInstance(node, allowed, name)
            self.assertIsNotNone(ast.get_docstring(tree), name)

    def test_imports_are_from_the_package_and_from_the_file_that_defines_the_name(self):
        defined = {}
        for name, _, tree in sources():
            own = [node.name for node in tree.body if isinstance(node, (ast.FunctionDef, ast.ClassDef))]
            own += [node.targets[0].id for node in tree.body if isinstance(node, ast.Assign)]
            self.assertEqual(len(own), len(set(own)), name)
            defined["momentwright." + name[:-3]] = own
        for name, _, tree in sources():
            for node in ast.walk(tree):
                self.assertNotIsInstance(node, ast.Import, name)
                if isinstance(node, ast.ImportFrom):
                    self.assertEqual(node.level, 0, name)
                    for one in node.names:
                        self.assertIn(one.name, defined[node.module], name)

    def test_no_two_files_import_from_each_other(self):
        imports = {}
        for name, _, tree in sources():
            imports[name[:-3]] = [node.module.split(".")[1] for node in tree.body if isinstance(node, ast.ImportFrom)]
        while imports:
            free = [name for name, needed in imports.items() if not any(one in imports for one in needed)]
            self.assertNotEqual(free, [], imports)
            for name in free:
                del imports[name]

    def test_classes(self):
        methods, attributes = set(), set()
        for name, _, tree in sources():
            for one in tree.body:
                if isinstance(one, ast.ClassDef):
                    self.assertLessEqual(len(one.bases), 1, name)
                    for node in one.body[1:]:
                        self.assertIsInstance(node, ast.FunctionDef, name)
                        methods.add(node.name)
            for node in ast.walk(tree):
                if isinstance(node, ast.Attribute) and isinstance(node.ctx, ast.Store):
                    attributes.add(node.attr)
        self.assertEqual(methods & attributes, set())
        # No own name is one that builtin values have.
        taken = [dir(value) for value in ("", 1, [], {}, set(), b"")]
        for own in (methods | attributes) - {"__init__"}:
            self.assertFalse(any(own in names for names in taken), own)

    def test_errors_of_python_are_caught_around_plain_calls_only(self):
        for name, _, tree in sources():
            for node in ast.walk(tree):
                if not isinstance(node, ast.Try):
                    continue
                for handler in node.handlers:
                    self.assertIsInstance(handler.type, ast.Name, name)
                    if handler.type.id in dir(builtins):
                        self.assertEqual(handler.type.id, "ValueError", name)
                        calls = [one for part in node.body for one in ast.walk(part) if isinstance(one, ast.Call)]
                        self.assertEqual([one.func.id for one in calls], ["int"], name)

    def test_names(self):
        for name, _, tree in sources():
            imported = [one.name for node in tree.body if isinstance(node, ast.ImportFrom) for one in node.names]
            for bound in bound_names(tree):
                if bound not in ("__init__", "__eq__", "__repr__", "__str__", "__len__"):
                    self.assertFalse(bound.startswith("_"), (name, bound))
                self.assertNotIn(bound, dir(builtins), name)
                self.assertNotIn(bound, imported, name)

    def test_builtins_and_methods_that_are_used(self):
        own_methods = [
            node.name for _, _, tree in sources() for one in tree.body if isinstance(one, ast.ClassDef)
            for node in one.body if isinstance(node, ast.FunctionDef)
        ]
        for name, _, tree in sources():
            for node in ast.walk(tree):
                if isinstance(node, ast.Name) and node.id in dir(builtins):
                    self.assertIn(node.id, BUILTINS, name)
                if isinstance(node, ast.Call) and isinstance(node.func, ast.Attribute):
                    self.assertIn(node.func.attr, METHODS + own_methods, name)


if __name__ == "__main__":
    unittest.main()
