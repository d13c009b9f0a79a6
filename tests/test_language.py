"""The rules of LANGUAGE.md that a reader would miss most easily, checked for each file of the package."""

import ast
import builtins
import pathlib
import unittest

PACKAGE = pathlib.Path(__file__).resolve().parent.parent / "laminae"
BUILTINS = set("""
    len range enumerate zip min max sum abs sorted reversed int str bool bytes list tuple dict set frozenset isinstance
    ord repr any all divmod pow Exception ValueError TypeError KeyError IndexError LookupError ZeroDivisionError
    ArithmeticError OverflowError RuntimeError NotImplementedError AttributeError StopIteration iter next
""".split())
METHODS = set("""
    append clear copy count endswith extend find get index insert isalnum isalpha isdigit islower isspace isupper items
    join keys ljust lower lstrip partition pop remove replace reverse rfind rjust rpartition rsplit rstrip setdefault
    split splitlines startswith strip update upper values zfill bit_length
""".split())
STATEMENTS = (
    ast.Assign, ast.AugAssign, ast.AnnAssign, ast.If, ast.While, ast.For, ast.Return, ast.Break, ast.Continue, ast.Pass,
    ast.Raise, ast.Assert, ast.Delete, ast.Try, ast.Expr, ast.FunctionDef, ast.ClassDef, ast.ImportFrom)
BARRED = set("""
    register mro elements open input law version_info with_traceback add_note attrgetter breakpoint compile copyright
    credits delattr dir eval exec exit gc getattr globals hasattr help id importlib license locals methodcaller os quit
    setattr super sys type vars typing enum Enum namedtuple dataclass overload contextmanager abstractmethod
""".split())


def parsed():
    """Each module of the package with its text and its tree."""
    for path in sorted(PACKAGE.glob("*.py")):
        text = path.read_text(encoding="utf-8")
        yield path.stem, text, ast.parse(text)


def bound_names(tree):
    """The names that a file gives to functions, classes, arguments and variables."""
    for node in ast.walk(tree):
        if isinstance(node, (ast.FunctionDef, ast.ClassDef)):
            yield node.name
        elif isinstance(node, ast.arg):
            yield node.arg
        elif isinstance(node, ast.Name) and isinstance(node.ctx, ast.Store):
            yield node.id


class LanguageTest(unittest.TestCase):

    def test_files(self):
        names = [path.name for path in PACKAGE.iterdir() if path.name != "__pycache__"]
        self.assertIn("__init__.py", names)
        for name in names:
            self.assertRegex(name, r"^[a-z0-9_]+\.py$")

    def test_sizes_and_characters(self):
        for module, text, tree in parsed():
            self.assertLessEqual(len(text.splitlines()), 399, module)
            self.assertTrue(all(letter == "\n" or " " <= letter <= "~" for letter in text), module)
            self.assertLessEqual(max(len(line) for line in text.splitlines()), 120, module)
            for node in ast.walk(tree):
                if isinstance(node, ast.FunctionDef):
                    self.assertLessEqual(node.end_lineno - node.lineno + 1, 40, f"{module}.{node.name}")

    def test_imports_name_the_very_file(self):
        defined, imported = {}, {}
        for module, _, tree in parsed():
            defined[module] = {name for node in tree.body for name in bound_names(node)}
            imports = [node for node in ast.walk(tree) if isinstance(node, (ast.Import, ast.ImportFrom))]
            self.assertEqual(imports, [node for node in tree.body[1:] if node in imports], module)
            imported[module] = []
            for node in imports:
                self.assertIsInstance(node, ast.ImportFrom)
                package, _, source = node.module.partition(".")
                self.assertEqual((package, node.level), ("laminae", 0))
                imported[module] += [(source, name.name) for name in node.names]
                self.assertTrue(all(name.asname is None for name in node.names))
        for module, names in imported.items():
            for source, name in names:
                self.assertIn(name, defined[source], module)

    def test_no_two_files_import_from_each_other(self):
        sources = {}
        for module, _, tree in parsed():
            nodes = [node for node in tree.body if isinstance(node, ast.ImportFrom)]
            sources[module] = {node.module.partition(".")[2] for node in nodes}
        while sources:
            ready = [module for module in sources if not sources[module] & set(sources)]
            self.assertTrue(ready, sources)
            for module in ready:
                del sources[module]

    def test_statements_and_names(self):
        for module, _, tree in parsed():
            for node in ast.walk(tree):
                if isinstance(node, ast.stmt):
                    self.assertIsInstance(node, STATEMENTS, module)
                if isinstance(node, ast.Name) and isinstance(node.ctx, ast.Load) and hasattr(builtins, node.id):
                    self.assertIn(node.id, BUILTINS, module)
                if isinstance(node, ast.Constant):
                    self.assertNotIsInstance(node.value, (float, complex), module)
                if isinstance(node, (ast.FunctionDef, ast.ClassDef)):
                    self.assertEqual(node.decorator_list, [], module)
            for name in bound_names(tree):
                barred = name in BARRED or hasattr(builtins, name) and not name.startswith("__")
                self.assertFalse(barred, f"{module}: {name}")

    def test_no_parameter_or_variable_has_the_name_of_an_import(self):
        for module, _, tree in parsed():
            imported = {name.name for node in tree.body if isinstance(node, ast.ImportFrom) for name in node.names}
            self.assertEqual(imported & set(bound_names(tree)), set(), module)

    def test_methods(self):
        own = {node.name for _, _, tree in parsed() for node in ast.walk(tree) if isinstance(node, ast.FunctionDef)}
        for module, _, tree in parsed():
            for node in ast.walk(tree):
                if isinstance(node, ast.Call) and isinstance(node.func, ast.Attribute):
                    self.assertIn(node.func.attr, own | METHODS, module)

    def test_methods_are_called_and_not_passed_on(self):
        nodes = [(module, node) for module, _, tree in parsed() for node in ast.walk(tree)]
        methods = {node.name for _, kind in nodes if isinstance(kind, ast.ClassDef)
                   for node in kind.body if isinstance(node, ast.FunctionDef)} | METHODS
        stored = {node.attr for _, node in nodes if isinstance(node, ast.Attribute) and isinstance(node.ctx, ast.Store)}
        called = [id(node.func) for _, node in nodes if isinstance(node, ast.Call)]
        for module, node in nodes:
            if isinstance(node, ast.Attribute) and node.attr in methods - stored:
                self.assertIn(id(node), called, f"{module}: {node.attr}")

    def test_what_is_called_and_with_which_keywords(self):
        for module, _, tree in parsed():
            for node in ast.walk(tree):
                if isinstance(node, ast.Call):
                    # A function from a table is given a name first.
                    self.assertIsInstance(node.func, (ast.Name, ast.Attribute), module)
                    self.assertTrue({keyword.arg for keyword in node.keywords} <= {"default", "key", "reverse"}, module)

    def test_errors_that_are_caught_and_raised(self):
        errors = {node.name for module, _, tree in parsed() if module == "errors" for node in tree.body
                  if isinstance(node, ast.ClassDef)}
        for module, _, tree in parsed():
            for node in ast.walk(tree):
                if isinstance(node, ast.ExceptHandler):
                    self.assertIn(node.type.id, errors, module)
                if isinstance(node, ast.Raise) and node.exc is not None:
                    self.assertIn(node.exc.func.id, errors, module)

    def test_no_name_is_a_method_and_an_attribute_of_one_class(self):
        for module, _, tree in parsed():
            for kind in (node for node in tree.body if isinstance(node, ast.ClassDef)):
                methods = {node.name for node in kind.body if isinstance(node, ast.FunctionDef)}
                stored = {node.attr for node in ast.walk(kind)
                          if isinstance(node, ast.Attribute) and isinstance(node.ctx, ast.Store)}
                self.assertEqual(methods & stored, set(), f"{module}.{kind.name}")


if __name__ == "__main__":
    unittest.main()
