"""Holds the files of the package to the rules of its language, as far as the syntax shows them."""

import ast
import builtins
import pathlib
import re
import unittest

PACKAGE = pathlib.Path(__file__).resolve().parent.parent / "pulltree"

ALLOWED_BUILTINS = set("""len range enumerate zip min max sum abs sorted reversed int str bool bytes list tuple dict set
    frozenset isinstance ord repr any all divmod iter next super property staticmethod classmethod object float
    Exception ValueError TypeError KeyError IndexError LookupError ZeroDivisionError ArithmeticError OverflowError
    RuntimeError NotImplementedError AttributeError StopIteration NotImplemented""".split())

ALLOWED_STATEMENTS = (
    ast.FunctionDef, ast.ClassDef, ast.Assign, ast.AugAssign, ast.AnnAssign, ast.If, ast.While, ast.For, ast.Return,
    ast.Break, ast.Continue, ast.Pass, ast.Raise, ast.Assert, ast.Delete, ast.Nonlocal, ast.Match, ast.With, ast.Try,
    ast.Expr, ast.ImportFrom)

MODULE_LEVEL = (ast.ImportFrom, ast.FunctionDef, ast.ClassDef, ast.Assign)

BUILTIN_METHODS = set("""append clear copy count endswith extend find get index insert isalnum isalpha isdigit islower
    isspace isupper items join keys ljust lower lstrip partition pop remove replace reverse rfind rjust rpartition
    rsplit rstrip setdefault split splitlines startswith strip update upper values zfill bit_length title capitalize
    swapcase casefold center expandtabs removeprefix removesuffix rindex isascii isdecimal isnumeric istitle
    isidentifier isprintable translate maketrans sort add discard""".split())

DOUBLE_UNDERSCORE = {"__init__", "__eq__", "__repr__", "__str__", "__len__"}

NEVER_NAMES = set("register mro elements open input law version_info with_traceback add_note".split())

BARRED_WORDS = set("""type typing typing_extensions enum Enum IntEnum StrEnum Flag IntFlag Generic Protocol ABC ABCMeta
    namedtuple NamedTuple TypedDict TYPE_CHECKING abstractmethod""".split())


def package_files():
    return sorted(path for path in PACKAGE.rglob("*") if "__pycache__" not in path.parts)


def modules():
    return {path.stem: ast.parse(path.read_text()) for path in package_files()}


def bound_names(tree):
    """All names that are defined, assigned, imported or taken as parameters."""
    names = []
    for node in ast.walk(tree):
        if isinstance(node, (ast.FunctionDef, ast.ClassDef)):
            names.append(node.name)
        elif isinstance(node, ast.arg):
            names.append(node.arg)
        elif isinstance(node, ast.Name) and not isinstance(node.ctx, ast.Load):
            names.append(node.id)
        elif isinstance(node, ast.ImportFrom):
            names += [alias.asname or alias.name for alias in node.names]
        elif isinstance(node, ast.ExceptHandler) and node.name:
            names.append(node.name)
    return names


def imported_modules(tree):
    return [node.module for node in ast.walk(tree) if isinstance(node, ast.ImportFrom)]


class FilesTest(unittest.TestCase):
    def test_only_plain_python_files(self):
        self.assertTrue((PACKAGE / "__init__.py").is_file())
        for path in package_files():
            self.assertTrue(re.fullmatch(r"__init__\.py|[a-z][a-z0-9_]*\.py", path.name), path)

    def test_lines_and_characters(self):
        for path in package_files():
            text = path.read_text()
            lines = text.split("\n")
            self.assertLessEqual(len(lines), 400, path)
            for number, line in enumerate(lines, start=1):
                self.assertLessEqual(len(line), 120, (path, number))
                self.assertTrue(all(" " <= character <= "~" for character in line), (path, number))

    def test_barred_words(self):
        for path in package_files():
            text = path.read_text()
            self.assertEqual(set(re.findall(r"\w+", text)) & BARRED_WORDS, set(), path)
            self.assertIsNone(re.search("dataclass|overload|contextmanager", text), path)


class SyntaxTest(unittest.TestCase):
    def test_statements(self):
        for name, tree in modules().items():
            for node in ast.walk(tree):
                if isinstance(node, ast.stmt):
                    self.assertIsInstance(node, ALLOWED_STATEMENTS, (name, node.lineno))
            for number, node in enumerate(tree.body):
                docstring = number == 0 and isinstance(node, ast.Expr) and isinstance(node.value, ast.Constant)
                self.assertTrue(docstring or isinstance(node, MODULE_LEVEL), (name, node.lineno))

    def test_functions_are_short_and_plain(self):
        for name, tree in modules().items():
            for node in ast.walk(tree):
                if isinstance(node, ast.FunctionDef):
                    self.assertLessEqual(node.end_lineno - node.lineno + 1, 40, (name, node.name))
                    self.assertEqual(node.decorator_list, [], (name, node.name))
                    self.assertEqual(node.args.posonlyargs, [], (name, node.name))

    def test_names(self):
        for name, tree in modules().items():
            for bound in bound_names(tree):
                if bound in DOUBLE_UNDERSCORE:
                    continue
                self.assertFalse(bound.startswith("_"), (name, bound))
                self.assertFalse(hasattr(builtins, bound), (name, bound))
                self.assertNotIn(bound, NEVER_NAMES, name)

    def test_one_binding_at_module_level(self):
        for name, tree in modules().items():
            outer = []
            for node in tree.body:
                if isinstance(node, (ast.FunctionDef, ast.ClassDef)):
                    outer.append(node.name)
                elif isinstance(node, (ast.Assign, ast.ImportFrom)):
                    outer += bound_names(node)
            self.assertEqual(len(outer), len(set(outer)), name)

    def test_no_local_name_is_that_of_a_class_or_an_import(self):
        for name, tree in modules().items():
            outer = []
            for node in tree.body:
                if isinstance(node, ast.ClassDef):
                    outer.append(node.name)
                elif isinstance(node, ast.ImportFrom):
                    outer += bound_names(node)
            for node in ast.walk(tree):
                if isinstance(node, ast.FunctionDef):
                    inner = bound_names(node)
                    inner.remove(node.name)
                    self.assertEqual(set(inner) & set(outer), set(), (name, node.name))

    def test_builtins_and_methods(self):
        for name, tree in modules().items():
            for node in ast.walk(tree):
                if isinstance(node, ast.Name) and hasattr(builtins, node.id):
                    self.assertIn(node.id, ALLOWED_BUILTINS, (name, node.lineno))
                if isinstance(node, ast.Attribute):
                    foreign = any(hasattr(kind, node.attr) for kind in (int, str, list, dict, set, tuple, bytes))
                    self.assertTrue(not foreign or node.attr in BUILTIN_METHODS, (name, node.lineno))

    def test_expressions(self):
        barred = (ast.Div, ast.Await)
        for name, tree in modules().items():
            for node in ast.walk(tree):
                self.assertNotIsInstance(node, barred, name)
                if isinstance(node, ast.Constant):
                    self.assertNotIsInstance(node.value, (float, complex), (name, node.lineno))
                    self.assertFalse(isinstance(node.value, str) and "%" in node.value, (name, node.lineno))
                if isinstance(node, ast.Compare) and any(isinstance(op, (ast.Is, ast.IsNot)) for op in node.ops):
                    self.assertIsInstance(node.comparators[-1], ast.Constant, (name, node.lineno))


class ClassesTest(unittest.TestCase):
    """What holds beside classes with attributes, __eq__ and __len__."""

    def methods_and_attributes(self):
        methods, attributes = set(), set()
        for tree in modules().values():
            for node in ast.walk(tree):
                if isinstance(node, ast.ClassDef):
                    methods |= {child.name for child in node.body if isinstance(child, ast.FunctionDef)}
                if isinstance(node, ast.Attribute) and not isinstance(node.ctx, ast.Load):
                    self.assertIsInstance(node.value, ast.Name)
                    attributes.add(node.attr)
        return methods, attributes

    def test_no_name_is_a_method_and_an_attribute(self):
        methods, attributes = self.methods_and_attributes()
        self.assertEqual(methods & attributes, set())
        self.assertEqual(attributes & BUILTIN_METHODS, set())

    def test_attributes_that_are_read_are_assigned(self):
        methods, attributes = self.methods_and_attributes()
        for name, tree in modules().items():
            for node in ast.walk(tree):
                if isinstance(node, ast.Attribute):
                    self.assertIn(node.attr, methods | attributes | BUILTIN_METHODS, (name, node.lineno))

    def test_builtins_take_lists_and_nothing_is_sorted_in_place(self):
        for name, tree in modules().items():
            for node in ast.walk(tree):
                self.assertNotIsInstance(node, (ast.GeneratorExp, ast.Yield, ast.YieldFrom), name)
                if isinstance(node, ast.Attribute):
                    self.assertNotEqual(node.attr, "sort", (name, node.lineno))

    def test_own_methods_that_change_are_not_those_of_lists_or_sets(self):
        # A call like rows.remove(x) would look like the own method.
        for name, tree in modules().items():
            for node in ast.walk(tree):
                if isinstance(node, ast.Call) and isinstance(node.func, ast.Attribute) and node.func.attr == "remove":
                    self.assertEqual(node.args, [], (name, node.lineno))


class ImportsTest(unittest.TestCase):
    def test_imports_name_the_file_that_defines_the_name(self):
        trees = modules()
        for name, tree in trees.items():
            for node in ast.walk(tree):
                if isinstance(node, ast.ImportFrom):
                    self.assertEqual(node.level, 0, name)
                    package, dot, target = node.module.partition(".")
                    self.assertEqual((package, dot), ("pulltree", "."), name)
                    defined = [other for child in trees[target].body if not isinstance(child, ast.ImportFrom)
                               for other in bound_names(child)]
                    for alias in node.names:
                        self.assertIn(alias.name, defined, name)

    def test_no_two_files_import_from_each_other(self):
        reached = {f"pulltree.{name}": set(imported_modules(tree)) for name, tree in modules().items()}
        for _ in reached:
            for found in reached.values():
                for other in list(found):
                    found |= reached[other]
        for name, found in reached.items():
            self.assertNotIn(name, found)


if __name__ == "__main__":
    unittest.main()
