"""Whether the package keeps to those rules of LANGUAGE.md that can be seen at a glance."""

import ast
import builtins
import pathlib
import unittest

PACKAGE = pathlib.Path(__file__).parent.parent / "quotedthreads"
FILES = sorted(PACKAGE.rglob("*.py"))
BUILTINS = (
    "len range enumerate zip min max sum abs sorted reversed int str bool bytes list tuple dict set frozenset "
    "isinstance ord repr any all divmod pow getattr hasattr setattr iter next map super property staticmethod "
    "classmethod object Exception ValueError TypeError KeyError IndexError LookupError ZeroDivisionError "
    "ArithmeticError OverflowError RuntimeError NotImplementedError AttributeError StopIteration NotImplemented"
).split()
BARRED = (
    "type typing typing_extensions enum Enum IntEnum StrEnum Flag IntFlag Generic Protocol ABC ABCMeta namedtuple "
    "NamedTuple TypedDict TYPE_CHECKING abstractmethod dataclass overload contextmanager register mro elements open "
    "input law version_info with_traceback add_note"
).split()
BARRED_NODES = (
    ast.Global, ast.AsyncFunctionDef, ast.AsyncFor, ast.AsyncWith, ast.Await, ast.TryStar, ast.Div, ast.GeneratorExp,
)
LIBRARY = {
    "heapq": ("heappush", "heappop", "heapify", "heapreplace", "heappushpop"),
    "itertools": ("combinations", "permutations", "product"),
    "math": ("gcd", "lcm", "isqrt", "comb", "perm", "factorial"),
}
BUILTIN_METHODS = [name for kind in (str, int, list, dict, set, bytes) for name in dir(kind)]
DECORATORS = ("property", "classmethod", "staticmethod")
# The name _ is one only while doctest runs.
OWN_OF_PYTHON = [name for name in dir(builtins) if name != "_"]


def trees():
    return [(file.name, ast.parse(file.read_text())) for file in FILES]


def nodes(*kinds):
    return [(name, node) for name, tree in trees() for node in ast.walk(tree) if isinstance(node, kinds)]


class Files(unittest.TestCase):
    def test_the_folder_holds_only_files_of_python(self):
        held = [path for path in PACKAGE.rglob("*") if "__pycache__" not in path.parts]
        self.assertEqual(FILES, sorted([path for path in held if path.is_file()]))
        self.assertIn(PACKAGE / "__init__.py", FILES)

    def test_characters_and_sizes(self):
        for file in FILES:
            text = file.read_bytes().decode("ascii")
            with self.subTest(file=file.name):
                self.assertEqual([], [letter for letter in text if letter != "\n" and not " " <= letter <= "~"])
                self.assertLessEqual(len(text.split("\n")), 399)
                self.assertLessEqual(max(map(len, text.split("\n"))), 120)

    def test_functions_have_at_most_40_lines(self):
        for name, node in nodes(ast.FunctionDef):
            with self.subTest(file=name, function=node.name):
                self.assertLessEqual(node.end_lineno - node.lineno + 1, 40)


class Rules(unittest.TestCase):
    def test_imports_are_of_the_file_that_defines_the_name(self):
        self.assertEqual([], [node.lineno for _, node in nodes(ast.Import)])
        defined = {}
        for name, tree in trees():
            found = [node.name for node in tree.body if isinstance(node, (ast.FunctionDef, ast.ClassDef))]
            found += [node.targets[0].id for node in tree.body if isinstance(node, ast.Assign)]
            defined["quotedthreads." + name[:-3]] = found
        for name, node in nodes(ast.ImportFrom):
            for alias in node.names:
                with self.subTest(file=name, name=alias.name):
                    self.assertIn(alias.name, LIBRARY.get(node.module) or defined[node.module])
                    self.assertEqual((None, 0), (alias.asname, node.level))

    def test_no_two_files_import_from_each_other(self):
        needs = {name[:-3]: set() for name, _ in trees()}
        for name, node in nodes(ast.ImportFrom):
            if node.module not in LIBRARY:
                needs[name[:-3]].add(node.module.removeprefix("quotedthreads."))
        while needs:
            free = [name for name in needs if not needs[name]]
            self.assertNotEqual([], free, needs)
            needs = {name: needs[name] - set(free) for name in needs if name not in free}

    def test_decorators(self):
        for name, node in nodes(ast.FunctionDef, ast.ClassDef):
            for decorator in node.decorator_list:
                with self.subTest(file=name, name=node.name):
                    self.assertIsInstance(node, ast.FunctionDef)
                    self.assertIn(ast.unparse(decorator), (*DECORATORS, f"{node.name}.setter"))

    def test_methods_properties_and_attributes(self):
        kinds = {}
        for _, node in nodes(ast.ClassDef):
            for method in [part for part in node.body if isinstance(part, ast.FunctionDef)]:
                kind = "".join([ast.unparse(decorator) for decorator in method.decorator_list]) or "method"
                kinds.setdefault(method.name, set()).add(kind)
        assigned = {node.attr for _, node in nodes(ast.Attribute) if isinstance(node.ctx, ast.Store)}
        for name, found in kinds.items():
            with self.subTest(name=name):
                self.assertEqual(1, len(found))
                self.assertNotIn(name, assigned)
                if not name.startswith("__"):
                    self.assertNotIn(name, BUILTIN_METHODS)
        read = {node.attr for _, node in nodes(ast.Attribute) if isinstance(node.ctx, ast.Load)}
        known = {*assigned, *kinds, *BUILTIN_METHODS, "__class__", "__name__"}
        self.assertEqual(set(), read - known)

    def test_is_stands_beside_none_true_and_false(self):
        for name, node in nodes(ast.Compare):
            for operator, other in zip(node.ops, node.comparators):
                if isinstance(operator, (ast.Is, ast.IsNot)):
                    with self.subTest(file=name, line=node.lineno):
                        self.assertIn(getattr(other, "value", ...), (None, True, False))

    def test_no_name_has_two_meanings_in_a_file(self):
        for name, tree in trees():
            outer = [node.name for node in ast.walk(tree) if isinstance(node, ast.ClassDef)]
            outer += [alias.name for node in tree.body if isinstance(node, ast.ImportFrom) for alias in node.names]
            inner = [node.arg for node in ast.walk(tree) if isinstance(node, ast.arg)]
            inner += [node.id for node in ast.walk(tree) if isinstance(node, ast.Name)
                      and isinstance(node.ctx, ast.Store)]
            self.assertEqual([], [word for word in inner if word in outer], name)

    def test_builtins(self):
        for name, node in nodes(ast.Name):
            if node.id in OWN_OF_PYTHON:
                with self.subTest(file=name, line=node.lineno):
                    self.assertIsInstance(node.ctx, ast.Load)
                    self.assertIn(node.id, BUILTINS)

    def test_parameters_are_no_builtins(self):
        for name, node in nodes(ast.arg):
            with self.subTest(file=name, line=node.lineno):
                self.assertNotIn(node.arg, OWN_OF_PYTHON)

    def test_barred_names_and_words(self):
        for name, node in nodes(ast.Name, ast.Attribute, ast.arg, ast.FunctionDef, ast.ClassDef, ast.keyword):
            for field in ("id", "attr", "arg", "name"):
                with self.subTest(file=name, line=node.lineno):
                    self.assertNotIn(getattr(node, field, None), BARRED)

    def test_barred_statements_and_values(self):
        # No generator expressions: a class has an __eq__ of its own.
        self.assertEqual([], [(name, node.__class__) for name, node in nodes(*BARRED_NODES)])
        for name, node in nodes(ast.Constant):
            with self.subTest(file=name, line=node.lineno):
                self.assertNotIsInstance(node.value, (float, complex))
                if isinstance(node.value, str):
                    self.assertNotIn("%", node.value)
