"""Some of the rules of LANGUAGE.md that a look at the files of the package can check."""
import ast
import pathlib
import re
import unittest

PACKAGE = pathlib.Path(__file__).parent.parent / "manydeep"
LIBRARY = {
    "heapq": {"heappush", "heappop", "heapify", "heapreplace", "heappushpop"},
    "math": {"gcd", "lcm", "isqrt", "comb", "perm", "factorial"},
    "itertools": {"product", "combinations", "permutations", "chain", "accumulate", "pairwise", "islice", "zip_longest"},
    "collections": {"defaultdict"},
}
BARRED = {
    "type", "typing", "typing_extensions", "enum", "Enum", "IntEnum", "StrEnum", "Flag", "IntFlag", "Generic",
    "Protocol", "ABC", "ABCMeta", "namedtuple", "NamedTuple", "TypedDict", "abstractmethod", "register", "mro",
    "elements", "open", "input", "law", "global", "async", "eval", "exec", "float", "chr", "object", "print",
}


class Language(unittest.TestCase):
    def setUp(self):
        self.trees = {file: ast.parse(file.read_text()) for file in sorted(PACKAGE.rglob("*.py"))}

    def test_the_folder_holds_files_of_python_alone(self):
        for file in PACKAGE.rglob("*"):
            if "__pycache__" not in file.parts:
                self.assertRegex(file.name, "^[a-z0-9_]+\\.py$")
        self.assertIn(PACKAGE / "__init__.py", self.trees)

    def test_sizes_and_characters(self):
        for file in self.trees:
            text = file.read_text()
            self.assertTrue(set(text) <= set(map(chr, range(32, 127))) | {"\n"}, file)
            self.assertLessEqual(len(text.split("\n")), 399, file)
            self.assertLessEqual(max(map(len, text.split("\n"))), 120, file)

    def test_functions_are_short(self):
        for file, tree in self.trees.items():
            for node in ast.walk(tree):
                if isinstance(node, ast.FunctionDef):
                    self.assertLessEqual(node.end_lineno - node.lineno + 1, 40, (file, node.name))

    def test_module_level(self):
        for file, tree in self.trees.items():
            for node in tree.body:
                docstring = isinstance(node, ast.Expr) and isinstance(node.value, ast.Constant)
                plain = isinstance(node, (ast.ImportFrom, ast.FunctionDef, ast.ClassDef, ast.Assign))
                self.assertTrue(docstring or plain, (file, node.lineno))

    def test_imports(self):
        for file, tree in self.trees.items():
            for node in ast.walk(tree):
                self.assertNotIsInstance(node, ast.Import, file)
                if isinstance(node, ast.ImportFrom):
                    self.assertEqual(node.level, 0, file)
                    names = {alias.name for alias in node.names}
                    inside = node.module.startswith("manydeep.") and "*" not in names
                    self.assertTrue(inside or names <= LIBRARY.get(node.module, set()), (file, names))

    def test_words_and_nodes_that_are_not_used(self):
        nodes = (ast.Global, ast.AsyncFunctionDef, ast.GeneratorExp, ast.Div, ast.Set)
        for file, tree in self.trees.items():
            for node in ast.walk(tree):
                self.assertNotIsInstance(node, nodes, (file, getattr(node, "lineno", None)))
                if isinstance(node, ast.Constant) and isinstance(node.value, str):
                    self.assertNotIn("%", node.value, file)
                if isinstance(node, ast.Constant):
                    self.assertNotIsInstance(node.value, float, file)
                if isinstance(node, ast.Name):
                    self.assertNotIn(node.id, BARRED, file)
                if isinstance(node, (ast.FunctionDef, ast.ClassDef)):
                    self.assertEqual(node.decorator_list, [], file)
                    self.assertNotIn(node.name, BARRED, file)

    def test_no_two_files_import_from_each_other(self):
        imports = {}
        for file, tree in self.trees.items():
            found = re.findall("^from manydeep\\.([a-z_]+) import", file.read_text(), re.MULTILINE)
            imports[file.stem] = set(found)
        while imports:
            free = [name for name in imports if not imports[name] & set(imports)]
            self.assertNotEqual(free, [], imports)
            for name in free:
                del imports[name]


if __name__ == "__main__":
    unittest.main()
