"""The form of the package's files, as far as it can be seen by reading them."""

import ast
import builtins
import pathlib
import re
import unittest

PACKAGE = pathlib.Path(__file__).resolve().parent.parent / "everyseat"
FILES = sorted(PACKAGE.glob("*.py"))

BUILTINS = set(
    "len range enumerate zip min max sum abs sorted reversed int str bool bytes list tuple dict set "
    "isinstance ord repr any all divmod Exception ValueError TypeError KeyError IndexError LookupError "
    "ZeroDivisionError ArithmeticError OverflowError RuntimeError NotImplementedError AttributeError "
    "StopIteration".split())
METHODS = set(
    "append clear copy count endswith extend find get index insert isalnum isalpha isdigit islower isspace "
    "isupper items join keys ljust lower lstrip partition pop remove replace reverse rfind rjust rpartition "
    "rsplit rstrip setdefault split splitlines startswith strip update upper values zfill bit_length add "
    "discard sort".split())
BARRED_WORDS = re.compile(
    r"\b(type|typing|typing_extensions|enum|Enum|IntEnum|StrEnum|Flag|IntFlag|Generic|Protocol|ABC|ABCMeta|"
    r"namedtuple|NamedTuple|TypedDict|TYPE_CHECKING|abstractmethod)\b|dataclass|overload|contextmanager")


def trees():
    return [(path.name, ast.parse(path.read_text())) for path in FILES]


class Form(unittest.TestCase):
    def test_the_folder_holds_just_the_files(self):
        found = [path.name for path in PACKAGE.iterdir() if path.name != "__pycache__"]
        self.assertEqual(sorted(found), [path.name for path in FILES])
        for name in found:
            self.assertRegex(name, r"^(__init__|[a-z][a-z0-9_]*)\.py$")

    def test_signs_lines_and_words(self):
        for path in FILES:
            text = path.read_bytes().decode("ascii")
            self.assertFalse(re.search(r"[^ -~\n]", text), path.name)
            self.assertFalse(BARRED_WORDS.search(text), path.name)
            self.assertLessEqual(len(text.split("\n")), 400, path.name)
            self.assertLessEqual(max(map(len, text.split("\n"))), 120, path.name)

    def test_functions_are_short(self):
        for name, tree in trees():
            for node in ast.walk(tree):
                if isinstance(node, ast.FunctionDef):
                    self.assertLessEqual(node.end_lineno - node.lineno + 1, 40, (name, node.name))

    def test_imports_are_of_the_package(self):
        for name, tree in trees():
            for node in ast.walk(tree):
                self.assertNotIsInstance(node, ast.Import, name)
                if isinstance(node, ast.ImportFrom):
                    self.assertRegex(node.module, r"^everyseat\.[a-z_]+$", name)
                    self.assertEqual(node.level, 0, name)

    def test_statements_and_values(self):
        for name, tree in trees():
            for node in ast.walk(tree):
                self.assertNotIsInstance(node, (ast.Global, ast.AsyncFunctionDef, ast.Div), name)
                if isinstance(node, ast.Constant):
                    self.assertNotIsInstance(node.value, (float, complex), name)

    def test_names_are_plain(self):
        for name, tree in trees():
            for node in ast.walk(tree):
                word = getattr(node, "id", None) or getattr(node, "arg", None)
                if isinstance(word, str):
                    self.assertRegex(word, r"^[A-Za-z][A-Za-z0-9_]*$", name)

    def test_the_module_level_holds_just_values_functions_and_classes(self):
        for name, tree in trees():
            self.assertIsInstance(tree.body[0].value.value, str, name)
            for node in tree.body[1:]:
                self.assertIsInstance(node, (ast.ImportFrom, ast.Assign, ast.FunctionDef, ast.ClassDef), name)
                if isinstance(node, ast.Assign):
                    ast.literal_eval(node.value)

    def test_each_name_has_one_meaning(self):
        for name, tree in trees():
            imported = [alias.name for node in tree.body if isinstance(node, ast.ImportFrom) for alias in node.names]
            defined = [node.name for node in tree.body if isinstance(node, (ast.FunctionDef, ast.ClassDef))]
            stored = [node.targets[0].id for node in tree.body if isinstance(node, ast.Assign)]
            self.assertEqual(len(set(imported + defined + stored)), len(imported + defined + stored), name)
            for node in ast.walk(tree):
                word = node.arg if isinstance(node, ast.arg) else None
                if isinstance(node, ast.Name) and isinstance(node.ctx, ast.Store):
                    word = node.id
                self.assertNotIn(word, imported + dir(builtins), name)

    def test_no_two_files_import_from_each_other(self):
        imports = {f"everyseat.{name[:-3]}": {node.module for node in tree.body if isinstance(node, ast.ImportFrom)}
                   for name, tree in trees()}
        while imports:
            free = [module for module in imports if not imports[module] & set(imports)]
            self.assertTrue(free, imports)
            for module in free:
                del imports[module]

    def test_what_is_called_is_own_or_allowed(self):
        own = {node.name for _, tree in trees() for node in ast.walk(tree)
               if isinstance(node, (ast.FunctionDef, ast.ClassDef))}
        for name, tree in trees():
            for node in ast.walk(tree):
                if isinstance(node, ast.Call) and isinstance(node.func, ast.Name):
                    self.assertIn(node.func.id, BUILTINS | own, name)
                if isinstance(node, ast.Call) and isinstance(node.func, ast.Attribute):
                    self.assertIn(node.func.attr, METHODS | own, name)

    def test_no_name_is_a_method_and_an_attribute(self):
        methods, stored, read = set(), set(), set()
        for _, tree in trees():
            for node in ast.walk(tree):
                if isinstance(node, ast.ClassDef):
                    methods.update(part.name for part in node.body if isinstance(part, ast.FunctionDef))
                    self.assertEqual(node.decorator_list, [])
                if isinstance(node, ast.Attribute):
                    (stored if isinstance(node.ctx, ast.Store) else read).add(node.attr)
        self.assertEqual(methods & stored, set())
        self.assertEqual(read - stored - methods - METHODS, set())
        names = [name for kind in (str, int, list, dict, set, tuple, bytes) for name in dir(kind)]
        self.assertEqual((methods - {"__init__"}) & set(names), set())
        self.assertEqual(stored & set(names), set())

    def test_no_function_calls_itself(self):
        for name, tree in trees():
            for node in ast.walk(tree):
                if isinstance(node, ast.FunctionDef):
                    called = [part.func.id for part in ast.walk(node)
                              if isinstance(part, ast.Call) and isinstance(part.func, ast.Name)]
                    self.assertNotIn(node.name, called, name)

    def test_comparisons_by_is_and_strings(self):
        for name, tree in trees():
            for node in ast.walk(tree):
                if isinstance(node, ast.Compare) and any(isinstance(op, (ast.Is, ast.IsNot)) for op in node.ops):
                    self.assertIsNone(node.comparators[0].value, name)
                if isinstance(node, ast.Constant) and isinstance(node.value, str):
                    self.assertNotIn("%", node.value, name)
                if isinstance(node, ast.BinOp) and isinstance(node.op, ast.Pow):
                    self.assertIn(node.right.value, range(65), name)

    def test_what_is_caught_and_raised_is_own(self):
        errors = {node.name for name, tree in trees() if name == "errors.py" for node in tree.body[1:]}
        for name, tree in trees():
            for node in ast.walk(tree):
                if isinstance(node, ast.ExceptHandler):
                    self.assertIn(node.type.id, errors, name)
                if isinstance(node, ast.Raise):
                    self.assertIn(node.exc.func.id, errors, name)


if __name__ == "__main__":
    unittest.main()
