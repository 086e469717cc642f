"""The rules of ../shared/LANGUAGE.md that are plain counts over the files."""

import ast
import pathlib
import unittest

PACKAGE = pathlib.Path(__file__).resolve().parent.parent / "toldlate"
SOURCES = {path.name: path.read_text(encoding="utf-8") for path in sorted(PACKAGE.glob("*.py"))}
TREES = {name: ast.parse(source) for name, source in SOURCES.items()}
LIBRARY = ("heapq", "math", "itertools", "collections")


def nodes(kinds):
    return [(name, node) for name, tree in TREES.items()
            for node in ast.walk(tree) if isinstance(node, kinds)]


class TestLanguage(unittest.TestCase):

    def test_the_folder_holds_python_files_alone(self):
        others = [path.name for path in PACKAGE.iterdir()
                  if path.suffix != ".py" and path.name != "__pycache__"]
        self.assertEqual(others, [])
        self.assertIn("__init__.py", SOURCES)

    def test_sizes(self):
        for name, source in SOURCES.items():
            lines = source.splitlines()
            self.assertLessEqual(len(lines), 399, name)
            self.assertLessEqual(max(len(line) for line in lines), 120, name)
        for name, node in nodes((ast.FunctionDef, ast.Lambda)):
            self.assertLessEqual(node.end_lineno - node.lineno + 1, 40, name)

    def test_characters(self):
        for name, source in SOURCES.items():
            odd = [letter for letter in source if letter != "\n" and not " " <= letter <= "~"]
            self.assertEqual(odd, [], name)

    def test_imports_are_from_the_package_or_the_few_allowed_modules(self):
        self.assertEqual(nodes(ast.Import), [])
        for name, node in nodes(ast.ImportFrom):
            own = node.module.startswith("toldlate.") and node.level == 0
            self.assertTrue(own or node.module in LIBRARY, name)

    def test_strings_have_no_percent_sign(self):
        found = [name for name, node in nodes(ast.Constant)
                 if isinstance(node.value, str) and "%" in node.value]
        self.assertEqual(found, [])


if __name__ == "__main__":
    unittest.main()
