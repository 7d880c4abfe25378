"""The rules of the language (L1 to L28) that can be seen from the syntax tree of each file alone."""

import ast
import builtins
import re
import unittest
from pathlib import Path

PACKAGE = Path(__file__).resolve().parent.parent / "flagplans"
FILES = sorted(PACKAGE.glob("*.py"))
# A doctest that ran before may have left its last result there.
BUILTINS = set(dir(builtins)) - {"_"}
ALLOWED_BUILTINS = """len range enumerate zip min max sum abs sorted reversed int str bool bytes list tuple dict set
    frozenset isinstance ord chr repr any all divmod pow ValueError""".split()
BARRED_WORDS = """type typing typing_extensions enum Enum IntEnum StrEnum Flag IntFlag Generic Protocol ABC ABCMeta
    namedtuple NamedTuple TypedDict TYPE_CHECKING abstractmethod register mro elements open input law version_info
    with_traceback add_note""".split()
STATEMENTS = (
    ast.FunctionDef, ast.ClassDef, ast.ImportFrom, ast.Assign, ast.AugAssign, ast.Expr, ast.If, ast.While, ast.For,
    ast.Return, ast.Break, ast.Continue, ast.Pass, ast.Raise)
BUILTIN_METHODS = """append clear copy count endswith extend find get index insert isalnum isalpha isdigit islower
    isspace isupper items join keys ljust lower lstrip partition pop remove replace reverse rfind
    rjust rpartition rsplit rstrip setdefault split splitlines startswith strip update upper values
    zfill bit_length""".split()
LIBRARY = {"heapq": "heappush heappop", "math": "gcd lcm", "itertools": "product combinations permutations"}


def bound_names(function):
    """The names that a function binds: its parameters, and what it assigns to."""
    names = {argument.arg for argument in ast.walk(function.args) if isinstance(argument, ast.arg)}
    for node in ast.walk(function):
        if isinstance(node, ast.Name) and isinstance(node.ctx, ast.Store):
            names.add(node.id)
    return names


class LanguageTest(unittest.TestCase):
    def trees(self):
        for path in FILES:
            text = path.read_text(encoding="ascii")
            yield path, text, ast.parse(text)

    def test_the_folder_contains_python_files_only(self):
        names = sorted(path.name for path in PACKAGE.iterdir() if path.name != "__pycache__")
        self.assertEqual(names, [path.name for path in FILES])
        for name in names:
            self.assertRegex(name, r"^(__init__|[a-z][a-z0-9_]*)\.py$")

    def test_characters_and_sizes(self):
        for path, text, tree in self.trees():
            lines = text.split("\n")
            self.assertLessEqual(len(lines), 399, path.name)
            self.assertLessEqual(max(len(line) for line in lines), 120, path.name)
            self.assertRegex(text, r"\A[ -~\n]*\Z", path.name)
            for node in ast.walk(tree):
                if isinstance(node, ast.FunctionDef):
                    self.assertLessEqual(node.end_lineno - node.lineno + 1, 40, node.name)

    def test_imports(self):
        for path, text, tree in self.trees():
            for node in ast.walk(tree):
                self.assertNotIsInstance(node, ast.Import)
                if isinstance(node, ast.ImportFrom):
                    self.assertIn(node, tree.body)
                    self.assertEqual(node.level, 0)
                    names = [alias.name for alias in node.names]
                    self.assertTrue(all(alias.asname is None for alias in node.names))
                    if node.module in LIBRARY:
                        self.assertTrue(set(names) <= set(LIBRARY[node.module].split()))
                    else:
                        self.check_defined_there(node.module, names)

    def test_what_is_imported_is_used(self):
        for path, text, tree in self.trees():
            imported = [alias.name for node in tree.body if isinstance(node, ast.ImportFrom) for alias in node.names]
            used = {node.id for node in ast.walk(tree) if isinstance(node, ast.Name)}
            self.assertEqual(set(imported) - used, set(), path.name)

    def test_methods_are_those_of_builtin_values_or_own_ones(self):
        own = {"__init__"}
        for path, text, tree in self.trees():
            for node in ast.walk(tree):
                if isinstance(node, ast.ClassDef):
                    own |= {inner.name for inner in node.body if isinstance(inner, ast.FunctionDef)}
        self.assertEqual(own & set(BUILTIN_METHODS), set())
        for path, text, tree in self.trees():
            for node in ast.walk(tree):
                if isinstance(node, ast.Call) and isinstance(node.func, ast.Attribute):
                    self.assertIn(node.func.attr, own | set(BUILTIN_METHODS), f"{path.name} line {node.lineno}")

    def test_no_name_is_a_method_and_an_attribute(self):
        methods, attributes = set(), set()
        for path, text, tree in self.trees():
            for node in ast.walk(tree):
                if isinstance(node, ast.ClassDef):
                    methods |= {inner.name for inner in node.body if isinstance(inner, ast.FunctionDef)}
                if isinstance(node, ast.Attribute) and isinstance(node.ctx, ast.Store):
                    attributes.add(node.attr)
        self.assertEqual(methods & attributes, set())

    def test_identity_is_asked_of_none_and_bools_only(self):
        for path, text, tree in self.trees():
            for node in ast.walk(tree):
                if isinstance(node, ast.Compare) and isinstance(node.ops[0], (ast.Is, ast.IsNot)):
                    self.assertIsInstance(node.comparators[0], ast.Constant, f"{path.name} line {node.lineno}")

    def check_defined_there(self, module, names):
        folder, name = module.split(".")
        self.assertEqual(folder, "flagplans")
        tree = ast.parse((PACKAGE / f"{name}.py").read_text())
        defined = {node.name for node in tree.body if isinstance(node, (ast.FunctionDef, ast.ClassDef))}
        for node in tree.body:
            if isinstance(node, ast.Assign):
                defined.add(node.targets[0].id)
        self.assertTrue(set(names) <= defined, (module, names))

    def test_statements(self):
        for path, text, tree in self.trees():
            for node in ast.walk(tree):
                if isinstance(node, ast.stmt):
                    self.assertIsInstance(node, STATEMENTS, f"{path.name} line {node.lineno}")
                self.assertNotIsInstance(node, (ast.Div, ast.Await), path.name)
                # Some of these are allowed in some places; the package does without them.
                self.assertNotIsInstance(node, (ast.Starred, ast.Lambda, ast.Yield, ast.YieldFrom, ast.NamedExpr))
                self.assertFalse(isinstance(node, ast.Constant) and isinstance(node.value, (float, complex)), path.name)

    def test_names(self):
        for path, text, tree in self.trees():
            imported = {a.name for node in tree.body if isinstance(node, ast.ImportFrom) for a in node.names}
            top = [node.name for node in tree.body if isinstance(node, (ast.FunctionDef, ast.ClassDef))]
            self.assertEqual(len(top), len(set(top)))
            self.assertEqual(set(top) & (imported | BUILTINS), set())
            for node in ast.walk(tree):
                if isinstance(node, ast.FunctionDef):
                    taken = bound_names(node) & (imported | set(top) | BUILTINS)
                    self.assertEqual(taken, set(), node.name)
                if isinstance(node, ast.Name) and node.id in BUILTINS:
                    self.assertIn(node.id, ALLOWED_BUILTINS, f"{path.name} line {node.lineno}")
                if isinstance(node, (ast.Name, ast.Attribute)):
                    self.assertNotIn(node.id if isinstance(node, ast.Name) else node.attr, BARRED_WORDS)

    def test_sets_are_not_kept_or_iterated(self):
        for path, text, tree in self.trees():
            measured = {
                id(node.args[0]) for node in ast.walk(tree)
                if isinstance(node, ast.Call) and getattr(node.func, "id", "") in ("len", "sorted")}
            for node in ast.walk(tree):
                if isinstance(node, ast.Call) and getattr(node.func, "id", "") == "set":
                    self.assertIn(id(node), measured, f"{path.name} line {node.lineno}")
                self.assertNotIsInstance(node, (ast.Set, ast.SetComp), path.name)

    def test_strings(self):
        for path, text, tree in self.trees():
            documentation = {
                id(node.body[0].value) for node in ast.walk(tree)
                if isinstance(node, (ast.Module, ast.FunctionDef, ast.ClassDef)) and ast.get_docstring(node)}
            for node in ast.walk(tree):
                if isinstance(node, ast.Constant) and isinstance(node.value, str) and id(node) not in documentation:
                    self.assertNotIn("%", node.value)
                    self.assertEqual(set(re.findall(r"\w+", node.value)) & set(BARRED_WORDS), set())

    def test_no_file_imports_itself_through_others(self):
        imports = {}
        for path, text, tree in self.trees():
            found = [node.module for node in tree.body if isinstance(node, ast.ImportFrom)]
            imports[path.stem] = {name.split(".")[1] for name in found if name.startswith("flagplans.")}
        while imports:
            free = [name for name in imports if not imports[name] & set(imports)]
            self.assertTrue(free, imports)
            for name in free:
                del imports[name]


if __name__ == "__main__":
    unittest.main()
