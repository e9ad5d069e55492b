"""Some rules of LANGUAGE.md that a reading of the package's files can show."""

import ast
import builtins
import pathlib
import re
import unittest

FOLDER = pathlib.Path(__file__).resolve().parent.parent / "deedsheaf"
ALLOWED_BUILTINS = set(
    "len range enumerate zip min max sum abs sorted reversed int str bool list tuple dict set frozenset isinstance "
    "ord repr any all divmod Exception ValueError TypeError KeyError IndexError LookupError ZeroDivisionError "
    "ArithmeticError OverflowError RuntimeError NotImplementedError AttributeError StopIteration NotImplemented "
    "super".split())
ALLOWED_METHODS = set(
    "append clear copy count endswith extend find get index insert isalnum isalpha isdigit islower isspace isupper "
    "items join keys ljust lower lstrip partition pop remove replace reverse rfind rjust rpartition rsplit rstrip "
    "setdefault split splitlines startswith strip update upper values zfill bit_length add discard __init__".split())
BARRED_WORDS = re.compile(
    r"\b(type|typing|typing_extensions|enum|Enum|IntEnum|StrEnum|Flag|IntFlag|Generic|Protocol|ABC|ABCMeta|namedtuple|"
    r"NamedTuple|TypedDict|TYPE_CHECKING|abstractmethod)\b|dataclass|overload|contextmanager")
BARRED_NODES = (ast.GeneratorExp, ast.Global, ast.Import, ast.AsyncFunctionDef, ast.Await, ast.Div)


def sources():
    return {path.name: path.read_text() for path in sorted(FOLDER.glob("*.py"))}


def walked():
    for name, source in sources().items():
        for node in ast.walk(ast.parse(source)):
            yield name, node


def defined_names(source):
    names = set()
    for node in ast.parse(source).body:
        if isinstance(node, (ast.FunctionDef, ast.ClassDef)):
            names.add(node.name)
        elif isinstance(node, ast.Assign):
            names.update(target.id for target in node.targets)
    return names


def all_below(below, name):
    """All names that are reached from a name, step by step."""
    found, left = set(), list(below[name])
    while left:
        other = left.pop()
        if other not in found:
            found.add(other)
            left.extend(below[other])
    return found


class Files(unittest.TestCase):
    def test_the_folder_has_python_files_alone(self):
        names = [path.name for path in FOLDER.iterdir() if path.name != "__pycache__"]
        self.assertIn("__init__.py", names)
        for name in names:
            self.assertRegex(name, r"\A(__init__|[a-z][a-z0-9_]*)\.py\Z")

    def test_lines_and_signs(self):
        for name, source in sources().items():
            lines = source.split("\n")
            self.assertLessEqual(len(lines), 401, name)
            for line in lines:
                self.assertLessEqual(len(line), 120, name)
                self.assertRegex(line, r"\A[ -~]*\Z", name)
                self.assertIsNone(BARRED_WORDS.search(line), (name, line))

    def test_functions_are_small(self):
        for name, node in walked():
            if isinstance(node, ast.FunctionDef):
                self.assertLessEqual(node.end_lineno - node.lineno + 1, 40, (name, node.name))


class Code(unittest.TestCase):
    def test_barred_parts_of_the_language(self):
        for name, node in walked():
            self.assertNotIsInstance(node, BARRED_NODES, (name, getattr(node, "lineno", None)))
            if isinstance(node, ast.Constant) and isinstance(node.value, (float, complex)):
                self.fail(name)

    def test_imports_name_the_file_that_defines_the_name(self):
        told = {f"deedsheaf.{name[:-3]}": source for name, source in sources().items()}
        for name, node in walked():
            if isinstance(node, ast.ImportFrom):
                self.assertEqual(node.level, 0)
                self.assertIn(node.module, told)
                for alias in node.names:
                    self.assertIn(alias.name, defined_names(told[node.module]), name)

    def test_builtins_and_methods(self):
        known = set(dir(builtins))
        own = {node.name for name, node in walked() if isinstance(node, ast.FunctionDef)}
        for name, node in walked():
            if isinstance(node, ast.Name) and node.id in known:
                self.assertIn(node.id, ALLOWED_BUILTINS, name)
                self.assertIsInstance(node.ctx, ast.Load, (name, node.id))
            if isinstance(node, ast.arg):
                self.assertNotIn(node.arg, known, name)
            if isinstance(node, ast.Call) and isinstance(node.func, ast.Attribute):
                self.assertIn(node.func.attr, ALLOWED_METHODS | own, name)

    def test_names_begin_with_a_letter(self):
        for name, node in walked():
            if isinstance(node, ast.Name):
                self.assertRegex(node.id, r"\A[A-Za-z]", name)
            if isinstance(node, ast.FunctionDef):
                self.assertRegex(node.name, r"\A([A-Za-z]|__[a-z]+__\Z)", name)

    def test_is_stands_beside_none_and_truths_alone(self):
        for name, node in walked():
            if isinstance(node, ast.Compare) and any(isinstance(op, (ast.Is, ast.IsNot)) for op in node.ops):
                self.assertTrue(all(isinstance(side, ast.Constant) for side in node.comparators), name)

    def test_no_percent_sign_and_no_escapes(self):
        for name, source in sources().items():
            self.assertNotIn("%", source, name)
            self.assertRegex(source, r"\A(?:[^\\]|\\n)*\Z", name)

    def test_nothing_of_pythons_own_is_caught(self):
        for name, node in walked():
            self.assertNotIsInstance(node, ast.Try, name)

    def test_no_name_is_a_method_and_an_attribute(self):
        methods, attributes = set(), set()
        for name, node in walked():
            if isinstance(node, ast.ClassDef):
                methods.update(part.name for part in node.body if isinstance(part, ast.FunctionDef))
            if isinstance(node, ast.Attribute) and isinstance(node.ctx, ast.Store):
                attributes.add(node.attr)
        self.assertIn("write", methods)
        self.assertIn("at", attributes)
        self.assertEqual(methods & attributes, set())

    def test_no_two_files_import_from_each_other(self):
        below = {name[:-3]: re.findall(r"(?m)^from deedsheaf\.([a-z]+) import", source)
                 for name, source in sources().items()}

        for name in below:
            self.assertNotIn(name, all_below(below, name))

    def test_every_import_is_used(self):
        for name, source in sources().items():
            tree = ast.parse(source)
            used = {node.id for node in ast.walk(tree) if isinstance(node, ast.Name)}
            for node in tree.body:
                if isinstance(node, ast.ImportFrom):
                    self.assertLessEqual({alias.name for alias in node.names}, used, name)


if __name__ == "__main__":
    unittest.main()
