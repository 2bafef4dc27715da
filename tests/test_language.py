"""The rules for the package's code that can be seen in its text."""

import ast
import builtins
import pathlib
import re
import unittest

PACKAGE = pathlib.Path(__file__).resolve().parent.parent / "stampedwait"
BUILTINS = set((
    "len range enumerate zip min max sum abs sorted reversed int str bool bytes list tuple dict set "
    "frozenset isinstance ord repr any all divmod iter next super property staticmethod classmethod "
    "Exception ValueError TypeError KeyError IndexError LookupError ZeroDivisionError "
    "ArithmeticError OverflowError RuntimeError NotImplementedError AttributeError StopIteration "
    "NotImplemented object float").split())
BARRED_WORDS = re.compile(
    r"\b(type|typing|typing_extensions|enum|Enum|IntEnum|StrEnum|Flag|IntFlag|Generic|Protocol|ABC"
    r"|ABCMeta|namedtuple|NamedTuple|TypedDict|TYPE_CHECKING|abstractmethod)\b"
    r"|dataclass|overload|contextmanager")
BARRED_NAMES = set((
    "register mro elements open input law version_info with_traceback add_note format format_map"
).split())
DOUBLE = set("__init__ __eq__ __repr__ __str__ __len__ __enter__ __exit__ __call__ __iter__".split())
BARRED_ATTRIBUTES = set((
    "items keys values pop update append clear extend insert remove reverse setdefault sort args "
    "encode decode hex fromhex format").split())
BUILTIN_METHODS = set((
    "append clear copy count endswith extend find get index insert isalnum isalpha isdigit islower isspace isupper "
    "items join keys ljust lower lstrip partition pop remove replace reverse rfind rjust rpartition rsplit rstrip "
    "setdefault split splitlines startswith strip update upper values zfill bit_length").split())
BARRED_NODES = (
    ast.Global, ast.AsyncFunctionDef, ast.AsyncFor, ast.AsyncWith, ast.Await, ast.Import,
    ast.Div, ast.MatMult, ast.MatchClass, ast.MatchMapping)


def sources():
    return {path: path.read_text(encoding="utf-8") for path in sorted(PACKAGE.glob("**/*.py"))}


def names_of(tree):
    """All names that the code gives or uses, but for double-underscore methods."""
    for node in ast.walk(tree):
        if isinstance(node, ast.Name):
            yield node.id
        elif isinstance(node, ast.Attribute):
            yield node.attr
        elif isinstance(node, ast.arg):
            yield node.arg
        elif isinstance(node, (ast.FunctionDef, ast.ClassDef)):
            yield node.name


class Files(unittest.TestCase):
    def test_the_folder_holds_plain_files_alone(self):
        found = [path for path in PACKAGE.rglob("*") if "__pycache__" not in path.parts]
        self.assertTrue(found)
        for path in found:
            self.assertRegex(path.name, r"^([a-z][a-z0-9_]*|__init__|__main__)\.py$")

    def test_signs_and_sizes(self):
        for path, text in sources().items():
            self.assertRegex(text, r"\A[ -~\n]*\Z", path.name)
            self.assertLessEqual(len(text.splitlines()), 399, path.name)
            for row in text.splitlines():
                self.assertLessEqual(len(row), 120, path.name)

    def test_barred_words(self):
        for path, text in sources().items():
            self.assertIsNone(BARRED_WORDS.search(text), path.name)


class Code(unittest.TestCase):
    def setUp(self):
        self.trees = {path: ast.parse(text) for path, text in sources().items()}

    def nodes(self, kinds):
        for path, tree in self.trees.items():
            for node in ast.walk(tree):
                if isinstance(node, kinds):
                    yield path.name, node

    def test_functions_are_short(self):
        for name, node in self.nodes(ast.FunctionDef):
            self.assertLessEqual(node.end_lineno - node.lineno + 1, 40, (name, node.name))

    def test_imports_name_the_file_that_defines(self):
        for name, node in self.nodes(ast.ImportFrom):
            self.assertEqual(node.level, 0, name)
            self.assertRegex(node.module, r"^stampedwait\.[a-z_]+$")
            path = PACKAGE / (node.module.split(".")[1] + ".py")
            defined = set()
            for row in self.trees[path].body:
                if isinstance(row, ast.Assign):
                    defined.add(row.targets[0].id)
                elif isinstance(row, (ast.FunctionDef, ast.ClassDef)):
                    defined.add(row.name)
            for alias in node.names:
                self.assertIn(alias.name, defined, name)
                self.assertIsNone(alias.asname, name)

    def test_module_level(self):
        plain = (ast.ImportFrom, ast.FunctionDef, ast.ClassDef, ast.Assign, ast.Expr)
        for path, tree in self.trees.items():
            bound = []
            for row in tree.body:
                self.assertIsInstance(row, plain, path.name)
                if isinstance(row, ast.Expr):
                    self.assertIsInstance(row.value, ast.Constant, path.name)
                elif isinstance(row, ast.Assign):
                    bound.append(row.targets[0].id)
                elif isinstance(row, ast.ImportFrom):
                    bound += [alias.name for alias in row.names]
                else:
                    bound.append(row.name)
            self.assertEqual(len(bound), len(set(bound)), path.name)

    def test_barred_statements(self):
        for name, node in self.nodes(BARRED_NODES):
            self.fail((name, node.lineno))
        for name, node in self.nodes(ast.Constant):
            self.assertNotIsInstance(node.value, float, name)
            if isinstance(node.value, str):
                self.assertNotIn("%", node.value, name)

    def test_names(self):
        for path, tree in self.trees.items():
            for name in names_of(tree):
                self.assertNotIn(name, BARRED_NAMES, path.name)
                if name.startswith("_"):
                    self.assertIn(name, DOUBLE, path.name)

    def test_builtins(self):
        for name, node in self.nodes(ast.Name):
            if hasattr(builtins, node.id):
                self.assertIn(node.id, BUILTINS, name)
                self.assertIsInstance(node.ctx, ast.Load, name)
        for name, node in self.nodes(ast.arg):
            self.assertFalse(hasattr(builtins, node.arg), (name, node.arg))

    def test_no_name_is_a_method_and_an_attribute(self):
        methods = {row.name for name, node in self.nodes(ast.ClassDef) for row in node.body
                   if isinstance(row, ast.FunctionDef)}
        stored = {node.attr for name, node in self.nodes(ast.Attribute)
                  if isinstance(node.ctx, ast.Store)}
        self.assertEqual(methods & stored, set())
        self.assertEqual(stored & BARRED_ATTRIBUTES, set())

    def test_attributes_that_are_read_are_assigned_somewhere(self):
        methods = {row.name for name, node in self.nodes(ast.ClassDef) for row in node.body
                   if isinstance(row, ast.FunctionDef)}
        stored = {node.attr for name, node in self.nodes(ast.Attribute) if isinstance(node.ctx, ast.Store)}
        for name, node in self.nodes(ast.Attribute):
            self.assertIn(node.attr, methods | stored | BUILTIN_METHODS, (name, node.lineno))

    def test_no_local_name_is_that_of_a_class_or_an_import(self):
        for path, tree in self.trees.items():
            taken = {alias.name for row in tree.body if isinstance(row, ast.ImportFrom) for alias in row.names}
            taken |= {row.name for row in tree.body if isinstance(row, ast.ClassDef)}
            for node in ast.walk(tree):
                if isinstance(node, ast.arg):
                    self.assertNotIn(node.arg, taken, path.name)
                elif isinstance(node, ast.Name) and isinstance(node.ctx, ast.Store):
                    self.assertNotIn(node.id, taken, path.name)

    def test_imports_make_no_ring(self):
        above = {path.stem: {row.module.split(".")[1] for row in tree.body if isinstance(row, ast.ImportFrom)}
                 for path, tree in self.trees.items()}
        while above:
            free = {name for name, others in above.items() if not others & set(above)}
            self.assertTrue(free, above)
            above = {name: others for name, others in above.items() if name not in free}

    def test_only_own_errors_are_caught(self):
        own = {row.name for path, tree in self.trees.items() for row in tree.body if isinstance(row, ast.ClassDef)}
        for name, node in self.nodes(ast.ExceptHandler):
            self.assertIsInstance(node.type, ast.Name, name)
            self.assertIn(node.type.id, own, name)

    def test_is_stands_with_none_true_and_false_alone(self):
        for name, node in self.nodes(ast.Compare):
            for sign, right in zip(node.ops, node.comparators):
                if isinstance(sign, (ast.Is, ast.IsNot)):
                    self.assertIn(getattr(right, "value", 0), (None, True, False), name)

    def test_no_generator_expression_beside_eq(self):
        for name, node in self.nodes(ast.Call):
            if isinstance(node.func, ast.Name) and node.func.id in "any all min max sum sorted".split():
                for thing in node.args:
                    self.assertNotIsInstance(thing, ast.GeneratorExp, name)


if __name__ == "__main__":
    unittest.main()
