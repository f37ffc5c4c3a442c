"""Some of the rules of LANGUAGE.md that a look at the files of the package can check."""
import ast
import builtins
import pathlib
import re
import unittest

PACKAGE = pathlib.Path(__file__).parent.parent / "manydeep"
LIBRARY = {
    "heapq": {"heappush", "heappop", "heapify", "heapreplace", "heappushpop"},
    "math": {"gcd", "lcm", "isqrt", "comb", "perm", "factorial"},
    "itertools": {"product", "combinations", "permutations", "chain", "accumulate", "pairwise", "islice", "zip_longest"},
    "collections": {"defaultdict"},
}
BARRED = {
    "type", "typing", "typing_extensions", "enum", "Enum", "IntEnum", "StrEnum", "Flag", "IntFlag", "Generic",
    "Protocol", "ABC", "ABCMeta", "namedtuple", "NamedTuple", "TypedDict", "abstractmethod", "register", "mro",
    "elements", "open", "input", "law", "global", "async", "eval", "exec", "float", "chr", "object", "print",
}
# Of what Python has at hand, what may be read; and the methods of builtin values that may be called.
BUILTINS = {
    "len", "range", "enumerate", "zip", "min", "max", "sum", "abs", "sorted", "reversed", "int", "str", "bool", "list",
    "tuple", "dict", "set", "isinstance", "ord", "repr", "any", "all", "divmod", "Exception", "ValueError", "TypeError",
    "KeyError", "IndexError", "ZeroDivisionError",
}
METHODS = {
    "append", "clear", "copy", "count", "endswith", "extend", "find", "get", "index", "insert", "isalnum", "isalpha",
    "isdigit", "islower", "isspace", "isupper", "items", "join", "keys", "ljust", "lower", "lstrip", "partition", "pop",
    "remove", "replace", "reverse", "rfind", "rjust", "rpartition", "rsplit", "rstrip", "setdefault", "split",
    "splitlines", "startswith", "strip", "update", "upper", "values", "zfill", "bit_length", "isascii", "add", "discard",
}
KEPT = {"zip", "range", "enumerate", "reversed", "map"}
CHANGING = {"append", "extend", "pop", "insert", "remove", "clear", "update", "setdefault", "add", "discard", "reverse"}


def stored(tree):
    """The names that are assigned in a tree, and those of parameters."""
    names = [node.id for node in ast.walk(tree) if isinstance(node, ast.Name) and not isinstance(node.ctx, ast.Load)]
    return set(names + [node.arg for node in ast.walk(tree) if isinstance(node, ast.arg)])


def read(tree):
    return {node.id for node in ast.walk(tree) if isinstance(node, ast.Name) and isinstance(node.ctx, ast.Load)}


def root(node):
    """The name at the beginning of attributes and items."""
    while isinstance(node, (ast.Attribute, ast.Subscript)):
        node = node.value
    return getattr(node, "id", None)


def changes(node):
    """The name of what a node of a tree changes."""
    if isinstance(node, ast.Call) and isinstance(node.func, ast.Attribute) and node.func.attr in CHANGING:
        return root(node.func.value)
    if isinstance(node, ast.Subscript) and not isinstance(node.ctx, ast.Load):
        return root(node)
    return node.id if isinstance(node, ast.Name) and not isinstance(node.ctx, ast.Load) else None


class Language(unittest.TestCase):
    def setUp(self):
        self.trees = {file: ast.parse(file.read_text()) for file in sorted(PACKAGE.rglob("*.py"))}

    def test_the_folder_holds_files_of_python_alone(self):
        for file in PACKAGE.rglob("*"):
            if "__pycache__" not in file.parts:
                self.assertRegex(file.name, "^[a-z0-9_]+\\.py$")
        self.assertIn(PACKAGE / "__init__.py", self.trees)

    def test_sizes_and_characters(self):
        for file in self.trees:
            text = file.read_text()
            self.assertTrue(set(text) <= set(map(chr, range(32, 127))) | {"\n"}, file)
            self.assertLessEqual(len(text.split("\n")), 399, file)
            self.assertLessEqual(max(map(len, text.split("\n"))), 120, file)

    def test_functions_are_short(self):
        for file, tree in self.trees.items():
            for node in ast.walk(tree):
                if isinstance(node, ast.FunctionDef):
                    self.assertLessEqual(node.end_lineno - node.lineno + 1, 40, (file, node.name))

    def test_module_level(self):
        for file, tree in self.trees.items():
            for node in tree.body:
                docstring = isinstance(node, ast.Expr) and isinstance(node.value, ast.Constant)
                plain = isinstance(node, (ast.ImportFrom, ast.FunctionDef, ast.ClassDef, ast.Assign))
                self.assertTrue(docstring or plain, (file, node.lineno))

    def test_imports(self):
        for file, tree in self.trees.items():
            for node in ast.walk(tree):
                self.assertNotIsInstance(node, ast.Import, file)
                if isinstance(node, ast.ImportFrom):
                    self.assertEqual(node.level, 0, file)
                    names = {alias.name for alias in node.names}
                    inside = node.module.startswith("manydeep.") and "*" not in names
                    self.assertTrue(inside or names <= LIBRARY.get(node.module, set()), (file, names))

    def test_words_and_nodes_that_are_not_used(self):
        nodes = (ast.Global, ast.AsyncFunctionDef, ast.GeneratorExp, ast.Div, ast.Set)
        for file, tree in self.trees.items():
            for node in ast.walk(tree):
                self.assertNotIsInstance(node, nodes, (file, getattr(node, "lineno", None)))
                if isinstance(node, ast.Constant) and isinstance(node.value, str):
                    self.assertNotIn("%", node.value, file)
                if isinstance(node, ast.Constant):
                    self.assertNotIsInstance(node.value, float, file)
                if isinstance(node, ast.Name):
                    self.assertNotIn(node.id, BARRED, file)
                if isinstance(node, (ast.FunctionDef, ast.ClassDef)):
                    self.assertEqual(node.decorator_list, [], file)
                    self.assertNotIn(node.name, BARRED, file)

    def test_names(self):
        for file, tree in self.trees.items():
            defined = {node.name for node in tree.body if isinstance(node, (ast.FunctionDef, ast.ClassDef))}
            imported = {alias.name for node in tree.body if isinstance(node, ast.ImportFrom) for alias in node.names}
            kept = {target.id for node in tree.body if isinstance(node, ast.Assign) for target in node.targets}
            self.assertEqual(imported - read(tree), set(), file)
            self.assertEqual({name for name in defined if name.startswith("_")} - read(tree), set(), file)
            self.assertEqual((defined | kept | stored(tree)) & set(dir(builtins)), set(), file)
            self.assertEqual(read(tree) & set(dir(builtins)) - BUILTINS, set(), file)
            self.assertNotIn("_", read(tree), file)
            for node in ast.walk(tree):
                if isinstance(node, ast.FunctionDef):
                    self.assertEqual(stored(node) & (defined | imported | kept), set(), (file, node.name))
            bound = list(defined) + list(imported) + list(kept)
            self.assertEqual(len(bound), len(set(bound)), file)

    def test_calls_and_comparisons(self):
        nodes = [node for tree in self.trees.values() for node in ast.walk(tree)]
        # Own attributes are those that some method assigns to its own object.
        own = {node.attr for node in nodes if isinstance(node, ast.Attribute) and isinstance(node.ctx, ast.Store) and root(node) == "self"}
        self.assertEqual(own & METHODS, set())
        for file, tree in self.trees.items():
            for node in ast.walk(tree):
                at = (file, getattr(node, "lineno", None))
                if isinstance(node, ast.Attribute) and root(node) != "self":
                    self.assertIn(node.attr, METHODS | own, at)
                if isinstance(node, ast.Assign) and isinstance(node.value, ast.Call):
                    self.assertNotIn(getattr(node.value.func, "id", None), KEPT, at)
                if isinstance(node, ast.Compare) and isinstance(node.ops[0], (ast.Is, ast.IsNot)):
                    self.assertIn(getattr(node.comparators[0], "value", 0), (None, True, False), at)
                if isinstance(node, ast.Call):
                    for argument in node.args:
                        self.assertNotIsInstance(argument, ast.Starred, at)

    def test_loops_do_not_change_what_they_go_over(self):
        for file, tree in self.trees.items():
            for loop in ast.walk(tree):
                if isinstance(loop, ast.For):
                    changed = {changes(node) for part in loop.body for node in ast.walk(part)}
                    self.assertEqual(read(loop.iter) & changed, set(), (file, loop.lineno))

    def test_no_two_files_import_from_each_other(self):
        imports = {}
        for file, tree in self.trees.items():
            found = re.findall("^from manydeep\\.([a-z_]+) import", file.read_text(), re.MULTILINE)
            imports[file.stem] = set(found)
        while imports:
            free = [name for name in imports if not imports[name] & set(imports)]
            self.assertNotEqual(free, [], imports)
            for name in free:
                del imports[name]


if __name__ == "__main__":
    unittest.main()
