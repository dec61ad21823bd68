"""The package keeps to the rules of the language that can be seen in its words and signs.

Not every rule is looked at here; where one is, its number stands in the name of the test.
"""

import ast
import builtins
import pathlib
import re
import unittest

PACKAGE = pathlib.Path(__file__).resolve().parent.parent / "nearkinds"

BUILTINS = set("""
    len range enumerate zip min max sum abs sorted reversed int str bool bytes list tuple dict set frozenset
    isinstance ord repr any all divmod Exception ValueError TypeError KeyError IndexError LookupError
    ZeroDivisionError ArithmeticError OverflowError RuntimeError NotImplementedError AttributeError StopIteration
""".split())

METHODS = set("""
    append clear copy count endswith extend find get index insert isalnum isalpha isdigit islower isspace isupper
    items join keys ljust lower lstrip partition pop remove replace reverse rfind rjust rpartition rsplit rstrip
    setdefault split splitlines startswith strip update upper values zfill bit_length isascii isdecimal
    removeprefix removesuffix sort add discard
""".split())

BARRED_WORDS = """
    type typing typing_extensions enum Enum IntEnum StrEnum Flag IntFlag Generic Protocol ABC ABCMeta namedtuple
    NamedTuple TypedDict TYPE_CHECKING abstractmethod
""".split()

BARRED_NAMES = set("""
    register mro elements open input version_info with_traceback add_note attrgetter breakpoint builtins compile
    copyright credits delattr dir eval exec exit gc getattr globals hasattr help id importlib license locals
    methodcaller os quit setattr super type vars sys chr
""".split())

STATEMENTS = (
    ast.Assign, ast.AnnAssign, ast.AugAssign, ast.If, ast.While, ast.For, ast.Return, ast.Break, ast.Continue,
    ast.Pass, ast.Raise, ast.Assert, ast.Delete, ast.Try, ast.Expr, ast.FunctionDef, ast.ClassDef, ast.ImportFrom,
)

BARRED_EXPRESSIONS = (
    ast.GeneratorExp, ast.NamedExpr, ast.Yield, ast.YieldFrom, ast.Await, ast.Div, ast.MatMult,
)


def files():
    return sorted(path for path in PACKAGE.rglob("*.py"))


def parsed():
    return [(path.name, ast.parse(path.read_text())) for path in files()]


def all_nodes():
    return [(name, node) for name, tree in parsed() for node in ast.walk(tree)]


def bound_names(tree):
    """The names that parameters and local assignments bind."""
    names = [node.arg for node in ast.walk(tree) if isinstance(node, ast.arg)]
    for node in ast.walk(tree):
        if isinstance(node, ast.Name) and not isinstance(node.ctx, ast.Load):
            names.append(node.id)
        if isinstance(node, ast.ExceptHandler) and node.name:
            names.append(node.name)
    return names


def defined_names(tree):
    """The names that stand at module level, imports left out."""
    names = []
    for node in tree.body:
        if isinstance(node, (ast.FunctionDef, ast.ClassDef)):
            names.append(node.name)
        if isinstance(node, ast.Assign):
            names += [target.id for target in node.targets]
    return names


class LanguageTest(unittest.TestCase):
    def test_l1_l14_files(self):
        for path in PACKAGE.rglob("*"):
            if "__pycache__" not in path.parts:
                self.assertRegex(path.name, r"^[a-z][a-z0-9_]*\.py$|^__init__\.py$")
        self.assertTrue((PACKAGE / "__init__.py").is_file())

    def test_l2_l16_imports_name_the_file_that_defines_the_name(self):
        defined = {path.stem: defined_names(ast.parse(path.read_text())) for path in files()}
        for name, node in all_nodes():
            self.assertNotIsInstance(node, ast.Import, name)
            if isinstance(node, ast.ImportFrom):
                package, part = node.module.split(".")
                self.assertEqual((package, node.level), ("nearkinds", 0), name)
                for alias in node.names:
                    self.assertIn(alias.name, defined[part], name)

    def test_l16_no_two_files_import_from_each_other(self):
        imports = {}
        for name, tree in parsed():
            imports[name[:-3]] = {node.module.split(".")[1] for node in tree.body if isinstance(node, ast.ImportFrom)}
        done = set()
        while len(done) < len(imports):
            free = {name for name in imports if name not in done and imports[name] <= done}
            self.assertTrue(free, "files import from each other")
            done |= free

    def test_l3_l15_module_level(self):
        for name, tree in parsed():
            self.assertIsNotNone(ast.get_docstring(tree), name)
            for node in tree.body[1:]:
                self.assertIsInstance(node, (ast.ImportFrom, ast.FunctionDef, ast.ClassDef, ast.Assign), name)
            imported = [a.name for node in tree.body if isinstance(node, ast.ImportFrom) for a in node.names]
            names = defined_names(tree) + imported
            self.assertEqual(len(names), len(set(names)), name)

    def test_l4_l5_functions_and_classes_are_plain(self):
        for name, node in all_nodes():
            if isinstance(node, (ast.FunctionDef, ast.ClassDef)):
                self.assertEqual(node.decorator_list, [], name)
            if isinstance(node, ast.arguments):
                self.assertEqual((node.vararg, node.kwarg, node.posonlyargs), (None, None, []), name)

    def test_l6_l7_statements_and_expressions(self):
        for name, node in all_nodes():
            if isinstance(node, ast.stmt):
                self.assertIsInstance(node, STATEMENTS, name)
            self.assertNotIsInstance(node, BARRED_EXPRESSIONS, name)
            if isinstance(node, (ast.For, ast.While)):
                self.assertEqual(node.orelse, [], name)
            if isinstance(node, ast.Constant):
                self.assertNotIsInstance(node.value, (float, complex), name)
            if isinstance(node, ast.FormattedValue):
                self.assertIsNone(node.format_spec, name)

    def test_l8_l17_names(self):
        barred = (set(dir(builtins)) - BUILTINS) | BARRED_NAMES
        for name, node in all_nodes():
            if isinstance(node, ast.Name):
                self.assertNotIn(node.id, barred, name)

    def test_l10_sizes(self):
        for path in files():
            lines = path.read_text().split("\n")
            self.assertLessEqual(len(lines), 400, path.name)
            self.assertLessEqual(max(len(line) for line in lines), 120, path.name)
        for name, node in all_nodes():
            if isinstance(node, ast.FunctionDef):
                self.assertLessEqual(node.end_lineno - node.lineno + 1, 40, (name, node.name))

    def test_l12_l15_bound_names(self):
        for name, tree in parsed():
            imported = [a.name for node in tree.body if isinstance(node, ast.ImportFrom) for a in node.names]
            classes = [node.name for node in tree.body if isinstance(node, ast.ClassDef)]
            taken = set(imported) | set(classes) | set(dir(builtins))
            for bound in bound_names(tree):
                self.assertNotIn(bound, taken, name)
                self.assertRegex(bound, r"^[A-Za-z][A-Za-z0-9_]*$", name)

    def test_l14_l17_l27_characters_and_words(self):
        for path in files():
            text = path.read_text()
            self.assertRegex(text, r"\A[ -~\n]*\Z", path.name)
            for word in BARRED_WORDS:
                self.assertIsNone(re.search(rf"\b{word}\b", text), (path.name, word))
            for word in ("dataclass", "overload", "contextmanager"):
                self.assertNotIn(word, text, path.name)
        for name, node in all_nodes():
            if isinstance(node, ast.Constant) and isinstance(node.value, str):
                self.assertNotIn("%", node.value, name)

    def test_l20_is(self):
        for name, node in all_nodes():
            if isinstance(node, ast.Compare):
                for sign, right in zip(node.ops, node.comparators):
                    if isinstance(sign, (ast.Is, ast.IsNot)):
                        self.assertIn(ast.unparse(right), ("None", "True", "False"), name)

    def test_l25_methods(self):
        own = set()
        for name, node in all_nodes():
            if isinstance(node, ast.ClassDef):
                own |= {part.name for part in node.body if isinstance(part, ast.FunctionDef)}
            if isinstance(node, ast.Attribute) and isinstance(node.ctx, ast.Store):
                own.add(node.attr)
        for name, node in all_nodes():
            if isinstance(node, ast.Attribute):
                self.assertIn(node.attr, METHODS | own, name)


if __name__ == "__main__":
    unittest.main()
