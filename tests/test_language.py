"""Those rules of ../shared/LANGUAGE.md that are plainly counted or looked up, over the files of the package."""

import ast
import re
import unittest
from pathlib import Path

PACKAGE = Path(__file__).resolve().parent.parent / "halfseams"
BARRED_WORDS = (
    "type", "typing", "typing_extensions", "enum", "Enum", "IntEnum", "StrEnum", "Flag", "IntFlag", "Generic",
    "Protocol", "ABC", "ABCMeta", "namedtuple", "NamedTuple", "TypedDict", "TYPE_CHECKING", "abstractmethod")
BARRED_PARTS = ("dataclass", "overload", "contextmanager")
BARRED_NODES = (
    ast.Global, ast.AsyncFunctionDef, ast.AsyncFor, ast.AsyncWith, ast.Await, ast.Import, ast.Div)
BUILTINS = (
    "len range enumerate zip min max sum abs sorted reversed int str bool bytes list tuple dict set frozenset "
    "isinstance ord repr any all divmod super Exception ValueError TypeError KeyError IndexError LookupError "
    "ZeroDivisionError ArithmeticError OverflowError RuntimeError NotImplementedError AttributeError "
    "StopIteration NotImplemented").split()
DUNDERS = ("__init__",)
BARRED_NAMES = (
    "register mro elements open input version_info with_traceback add_note attrgetter breakpoint builtins compile "
    "copyright credits delattr dir eval exec exit gc getattr globals hasattr help id importlib license locals "
    "methodcaller os quit setattr type vars sys").split()
AT_ONCE = ("range", "zip", "enumerate", "reversed")
TAKERS = ("list", "tuple", "dict", "sorted", "sum", "any", "all", "enumerate", "zip", "min", "max")
METHODS = (
    "append clear copy count endswith extend find get index insert isalnum isalpha isdigit islower isspace isupper "
    "items join keys ljust lower lstrip partition pop remove replace reverse rfind rjust rpartition rsplit rstrip "
    "setdefault split splitlines startswith strip update upper values zfill bit_length add discard sort "
    "__init__").split()


def sources():
    return [(path, path.read_text(encoding="utf-8")) for path in sorted(PACKAGE.glob("*.py"))]


def trees():
    return [(path.name, ast.parse(text)) for path, text in sources()]


def bound_names(tree):
    """All names that a file binds or takes as parameters."""
    found = set()
    for node in ast.walk(tree):
        if isinstance(node, (ast.FunctionDef, ast.ClassDef)):
            found.add(node.name)
        elif isinstance(node, ast.arg):
            found.add(node.arg)
        elif isinstance(node, ast.Name) and isinstance(node.ctx, ast.Store):
            found.add(node.id)
        elif isinstance(node, ast.alias):
            found.add(node.asname or node.name)
        elif isinstance(node, (ast.MatchAs, ast.MatchStar)) and node.name is not None:
            found.add(node.name)
    return found


class TestLanguage(unittest.TestCase):
    def test_the_folder_has_only_plain_files(self):
        for path in PACKAGE.iterdir():
            if path.name != "__pycache__":
                self.assertRegex(path.name, r"\A(__init__|[a-z][a-z0-9_]*)\.py\Z")
                self.assertTrue(path.is_file())

    def test_characters_words_and_sizes(self):
        for path, text in sources():
            with self.subTest(path.name):
                self.assertRegex(text, r"\A[ -~\n]*\Z")
                lines = text.splitlines()
                self.assertLessEqual(len(lines), 400)
                self.assertLessEqual(max(len(line) for line in lines), 120)
                self.assertEqual([word for word in re.findall(r"\w+", text) if word in BARRED_WORDS], [])
                self.assertEqual([part for part in BARRED_PARTS if part in text], [])

    def test_functions_are_short(self):
        for name, tree in trees():
            for node in ast.walk(tree):
                if isinstance(node, ast.FunctionDef):
                    self.assertLessEqual(node.end_lineno - node.lineno + 1, 40, (name, node.name))

    def test_no_barred_statements_or_values(self):
        for name, tree in trees():
            for node in ast.walk(tree):
                self.assertNotIsInstance(node, BARRED_NODES, (name, getattr(node, "lineno", 0)))
                if isinstance(node, ast.Constant):
                    self.assertNotIsInstance(node.value, (float, complex), (name, node.lineno))
                    if isinstance(node.value, str):
                        self.assertNotIn("%", node.value, (name, node.lineno))

    def test_module_level(self):
        allowed = (ast.ImportFrom, ast.FunctionDef, ast.ClassDef, ast.Assign)
        for name, tree in trees():
            self.assertIsInstance(ast.get_docstring(tree), str, name)
            for node in tree.body[1:]:
                self.assertIsInstance(node, allowed, (name, node.lineno))

    def test_imports_name_the_file_that_defines_the_name_and_go_one_way(self):
        needs = {}
        defined = {}
        for name, tree in trees():
            module = "halfseams." + name[:-3]
            needs[module] = set()
            defined[module] = bound_names(ast.Module([node for node in tree.body
                                                      if not isinstance(node, ast.ImportFrom)], []))
            for node in ast.walk(tree):
                if isinstance(node, ast.ImportFrom):
                    needs[module].add(node.module)
                    self.assertIn(node, tree.body)
        for name, tree in trees():
            for node in tree.body:
                if isinstance(node, ast.ImportFrom):
                    self.assertEqual(node.level, 0)
                    for alias in node.names:
                        self.assertIn(alias.name, defined.get(node.module, ()), (name, node.lineno))
        while needs:
            ready = [module for module in needs if not needs[module] & set(needs)]
            self.assertTrue(ready, needs)
            for module in ready:
                del needs[module]

    def test_names(self):
        for name, tree in trees():
            bound = bound_names(tree)
            for one in bound:
                if one not in DUNDERS:
                    self.assertRegex(one, r"\A[A-Za-z][A-Za-z0-9_]*\Z", name)
                self.assertNotIn(one, BUILTINS, name)
            for node in ast.walk(tree):
                if isinstance(node, ast.Name) and isinstance(node.ctx, ast.Load):
                    self.assertIn(node.id, bound | set(BUILTINS), (name, node.lineno))

    def test_no_local_has_the_name_of_an_import_or_a_class_of_its_file(self):
        for name, tree in trees():
            taken = {alias.asname or alias.name for node in tree.body if isinstance(node, ast.ImportFrom)
                     for alias in node.names}
            taken |= {node.name for node in tree.body if isinstance(node, ast.ClassDef)}
            rest = ast.Module([node for node in tree.body if not isinstance(node, (ast.ImportFrom, ast.ClassDef))], [])
            self.assertEqual(bound_names(rest) & taken, set(), name)
            # A method may have such a name, what it binds may not.
            methods = [node for one in tree.body if isinstance(one, ast.ClassDef) for node in one.body
                       if isinstance(node, ast.FunctionDef)]
            for method in methods:
                within = ast.Module([method.args, *method.body], [])
                self.assertEqual(bound_names(within) & taken, set(), (name, method.name))

    def test_barred_names(self):
        for name, tree in trees():
            used = bound_names(tree) | {node.attr for node in ast.walk(tree) if isinstance(node, ast.Attribute)}
            self.assertEqual([one for one in used if one in BARRED_NAMES], [], name)

    def test_what_is_iterated_at_once(self):
        for name, tree in trees():
            allowed = set()
            for node in ast.walk(tree):
                if isinstance(node, (ast.For, ast.comprehension)):
                    allowed.add(node.iter)
                elif isinstance(node, ast.Call) and isinstance(node.func, ast.Name) and node.func.id in TAKERS:
                    allowed.update(node.args)
            for node in ast.walk(tree):
                if isinstance(node, ast.Call) and node not in allowed:
                    if isinstance(node.func, ast.Name):
                        self.assertNotIn(node.func.id, AT_ONCE, (name, node.lineno))
                    if isinstance(node.func, ast.Attribute):
                        self.assertNotIn(node.func.attr, ("items", "keys", "values"), (name, node.lineno))

    def test_methods(self):
        own = {node.name for name, tree in trees() for one in tree.body if isinstance(one, ast.ClassDef)
               for node in one.body if isinstance(node, ast.FunctionDef)}
        for name, tree in trees():
            for node in ast.walk(tree):
                if isinstance(node, ast.Attribute) and isinstance(node.ctx, ast.Store):
                    self.assertNotIn(node.attr, own, (name, node.lineno))
                if isinstance(node, ast.Call) and isinstance(node.func, ast.Attribute):
                    self.assertIn(node.func.attr, list(own) + METHODS, (name, node.lineno))

    def test_is_only_with_none_and_truths(self):
        for name, tree in trees():
            for node in ast.walk(tree):
                if isinstance(node, ast.Compare):
                    for sign, other in zip(node.ops, node.comparators):
                        if isinstance(sign, (ast.Is, ast.IsNot)):
                            self.assertIsInstance(other, ast.Constant, (name, node.lineno))
                            self.assertIn(other.value, (None, True, False), (name, node.lineno))

    def test_raise_makes_its_error_on_the_spot(self):
        for name, tree in trees():
            for node in ast.walk(tree):
                if isinstance(node, ast.Raise) and node.exc is not None:
                    self.assertIsInstance(node.exc, ast.Call, (name, node.lineno))
                    self.assertIsInstance(node.exc.func, ast.Name, (name, node.lineno))


if __name__ == "__main__":
    unittest.main()
