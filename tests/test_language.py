"""The rules of ../shared/LANGUAGE.md that are plain counts over the files."""

import ast
import builtins
import pathlib
import unittest

PACKAGE = pathlib.Path(__file__).resolve().parent.parent / "toldlate"
SOURCES = {path.name: path.read_text(encoding="utf-8") for path in sorted(PACKAGE.glob("*.py"))}
TREES = {name: ast.parse(source) for name, source in SOURCES.items()}
LIBRARY = ("heapq", "math", "itertools", "collections")
BUILTINS = (
    "len range enumerate zip min max sum abs sorted reversed int str bool list tuple dict set isinstance ord repr "
    "any all divmod pow property staticmethod Exception ValueError TypeError KeyError IndexError LookupError "
    "NotImplemented").split()
# doctest keeps its last value among the builtins, under the name "_".
ALL_BUILTINS = set(dir(builtins)) - {"_"}
SPECIAL = (
    "__init__ __eq__ __len__ __iter__ __lt__ __le__ __gt__ __ge__ __add__ __sub__ __mul__ __rmul__ __or__ "
    "__iadd__ __contains__ __getitem__").split()
BUILTIN_METHODS = (
    "append clear copy count endswith extend find get index insert isalnum isalpha isdigit items join keys ljust "
    "lower partition pop remove replace reverse rfind setdefault split splitlines startswith strip update upper "
    "values zfill bit_length").split()
BARRED_STATEMENTS = (
    ast.Global, ast.AsyncFunctionDef, ast.AsyncFor, ast.AsyncWith, ast.Await, ast.GeneratorExp, ast.SetComp,
    ast.Div, ast.AugAssign, ast.AnnAssign)


def nodes(kinds):
    return [(name, node) for name, tree in TREES.items()
            for node in ast.walk(tree) if isinstance(node, kinds)]


class TestLanguage(unittest.TestCase):

    def test_the_folder_holds_python_files_alone(self):
        others = [path.name for path in PACKAGE.iterdir()
                  if path.suffix != ".py" and path.name != "__pycache__"]
        self.assertEqual(others, [])
        self.assertIn("__init__.py", SOURCES)

    def test_sizes(self):
        for name, source in SOURCES.items():
            lines = source.splitlines()
            self.assertLessEqual(len(lines), 399, name)
            self.assertLessEqual(max(len(line) for line in lines), 120, name)
        for name, node in nodes((ast.FunctionDef, ast.Lambda)):
            self.assertLessEqual(node.end_lineno - node.lineno + 1, 40, name)

    def test_characters(self):
        for name, source in SOURCES.items():
            odd = [letter for letter in source if letter != "\n" and not " " <= letter <= "~"]
            self.assertEqual(odd, [], name)

    def test_imports_are_from_the_package_or_the_few_allowed_modules(self):
        self.assertEqual(nodes(ast.Import), [])
        for name, node in nodes(ast.ImportFrom):
            own = node.module.startswith("toldlate.") and node.level == 0
            self.assertTrue(own or node.module in LIBRARY, name)

    def test_strings_have_no_percent_sign(self):
        found = [name for name, node in nodes(ast.Constant)
                 if isinstance(node.value, str) and "%" in node.value]
        self.assertEqual(found, [])

    def test_statements_that_the_package_does_without(self):
        self.assertEqual(nodes(BARRED_STATEMENTS), [])
        for name, node in nodes((ast.FunctionDef, ast.ClassDef)):
            words = [ast.unparse(one) for one in node.decorator_list]
            self.assertLessEqual(set(words), {"property", "staticmethod"}, name)

    def test_builtins(self):
        for name, node in nodes(ast.Name):
            if node.id in ALL_BUILTINS:
                self.assertIsInstance(node.ctx, ast.Load, name)
                self.assertIn(node.id, BUILTINS, name)

    def test_methods(self):
        own = {node.name for _, node in nodes(ast.FunctionDef)}
        for name, node in nodes(ast.Call):
            if isinstance(node.func, ast.Attribute):
                self.assertIn(node.func.attr, own | set(BUILTIN_METHODS), name)

    def test_names_of_functions_parameters_and_variables(self):
        for name, tree in TREES.items():
            top = {node.name for node in ast.walk(tree) if isinstance(node, ast.ClassDef)}
            top |= {one.name for node in ast.walk(tree) if isinstance(node, ast.ImportFrom) for one in node.names}
            top |= {node.name for node in tree.body if isinstance(node, ast.FunctionDef)}
            for node in ast.walk(tree):
                if isinstance(node, ast.arg):
                    self.check_bound(node.arg, top, name)
                if isinstance(node, ast.Name) and isinstance(node.ctx, ast.Store):
                    self.check_bound(node.id, top, name)
                if isinstance(node, ast.FunctionDef):
                    self.assertTrue(node.name in SPECIAL or not node.name.startswith("__"), name)

    def check_bound(self, word, top, name):
        self.assertNotIn(word, top, name)
        self.assertNotIn(word, ALL_BUILTINS, name)
        self.assertFalse(word.startswith("__"), (name, word))

    def test_no_two_files_import_from_each_other(self):
        wanted = {name: {node.module.partition(".")[2] + ".py" for node in ast.walk(tree)
                         if isinstance(node, ast.ImportFrom) and node.module.startswith("toldlate.")}
                  for name, tree in TREES.items()}
        while wanted:
            free = [name for name in wanted if not wanted[name] & set(wanted)]
            self.assertNotEqual(free, [], "files import from each other")
            wanted = {name: wanted[name] for name in wanted if name not in free}

    def test_default_values_are_plain(self):
        for name, node in nodes(ast.arguments):
            for value in node.defaults + [one for one in node.kw_defaults if one is not None]:
                ast.literal_eval(value)

    def test_what_compares_is_sorted_as_plain_strings(self):
        for name, node in nodes(ast.Call):
            if isinstance(node.func, ast.Name) and node.func.id == "sorted":
                self.assertRegex(ast.unparse(node), r"^sorted\(\[str\(", name)


if __name__ == "__main__":
    unittest.main()
