"""The rules of the language for the files of the package, as far as they can be read off simply."""

import ast
import pathlib
import unittest

FOLDER = pathlib.Path(__file__).resolve().parent.parent / "shardmove"
LIBRARY = {
    "__future__": {"annotations"},
    "heapq": {"heappush", "heappop", "heapify", "heapreplace", "heappushpop"},
    "math": {"gcd", "lcm", "isqrt", "comb", "perm", "factorial"},
    "itertools": {"product", "combinations", "permutations"},
}
DECORATORS = {"property", "staticmethod", "classmethod"}
BARRED_CALLS = {"open", "input", "eval", "exec", "getattr", "setattr", "vars", "type", "hash", "id", "round", "pow",
                "filter", "float", "complex", "print", "globals", "locals", "chr", "bytes"}
BARRED_NODES = (ast.Global, ast.AsyncFunctionDef, ast.Await, ast.Div, ast.Import)


class LanguageTest(unittest.TestCase):

    def setUp(self):
        self.files = sorted(path for path in FOLDER.rglob("*") if "__pycache__" not in path.parts)

    def test_only_python_files_of_plain_characters(self):
        self.assertIn("__init__.py", [path.name for path in self.files])
        for path in self.files:
            self.assertEqual(path.suffix, ".py", path)
            text = path.read_text("ascii")
            self.assertTrue(all(" " <= character <= "~" or character == "\n" for character in text), path)

    def test_sizes(self):
        for path in self.files:
            lines = path.read_text().splitlines()
            self.assertLessEqual(len(lines), 399, path)
            self.assertLessEqual(max(map(len, lines), default=0), 120, path)
            for node in ast.walk(ast.parse(path.read_text())):
                if isinstance(node, ast.FunctionDef):
                    self.assertLessEqual(node.end_lineno - node.lineno + 1, 40, (path, node.name))

    def test_imports(self):
        for path in self.files:
            for node in ast.walk(ast.parse(path.read_text())):
                if isinstance(node, ast.ImportFrom):
                    self.assertEqual(node.level, 0, path)
                    names = {alias.name for alias in node.names}
                    if node.module in LIBRARY:
                        self.assertLessEqual(names, LIBRARY[node.module], path)
                    else:
                        self.assertTrue(node.module.startswith("shardmove."), path)
                        self.assertNotIn("*", names, path)

    def test_words_that_are_barred(self):
        for path in self.files:
            for node in ast.walk(ast.parse(path.read_text())):
                self.assertNotIsInstance(node, BARRED_NODES, path)
                if isinstance(node, ast.Call) and isinstance(node.func, ast.Name):
                    self.assertNotIn(node.func.id, BARRED_CALLS, path)
                if isinstance(node, ast.Constant):
                    self.assertNotIsInstance(node.value, (float, complex), path)
                if isinstance(node, ast.FunctionDef):
                    for decorator in node.decorator_list:
                        setter = isinstance(decorator, ast.Attribute) and decorator.attr == "setter"
                        self.assertTrue(setter or ast.unparse(decorator) in DECORATORS, (path, node.name))


if __name__ == "__main__":
    unittest.main()
