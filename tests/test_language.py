"""Some rules for the code of the package that can be told from its syntax: files, imports, sizes, names."""

import ast
import builtins
import pathlib
import unittest

FOLDER = pathlib.Path(__file__).resolve().parent.parent / "shuffledcuts"
LIBRARY = {"math": {"gcd", "lcm", "isqrt", "comb", "perm", "factorial"},
           "itertools": {"product", "combinations", "permutations", "chain", "accumulate", "pairwise", "islice",
                         "zip_longest"},
           "heapq": {"heappush", "heappop", "heapify", "heapreplace", "heappushpop"},
           "collections": {"defaultdict", "deque"}}
BUILTINS = set("""len range enumerate zip min max sum abs sorted reversed int str bool bytes list tuple dict set isinstance
    ord repr any all divmod pow map iter next super ValueError TypeError KeyError IndexError LookupError""".split())
MODULE_LEVEL = (ast.Expr, ast.ImportFrom, ast.FunctionDef, ast.ClassDef, ast.Assign)


def own_files():
    return sorted(path for path in FOLDER.rglob("*") if path.is_file() and "__pycache__" not in path.parts)


def trees():
    return [(path, ast.parse(path.read_text(encoding="utf-8"))) for path in own_files()]


def bound_names(tree):
    for node in ast.walk(tree):
        if isinstance(node, ast.Name) and not isinstance(node.ctx, ast.Load):
            yield node.id
        elif isinstance(node, (ast.FunctionDef, ast.ClassDef)):
            yield node.name
        elif isinstance(node, ast.arg):
            yield node.arg


class Files(unittest.TestCase):
    def test_the_folder_holds_python_files_alone(self):
        self.assertTrue(own_files())
        self.assertEqual([path for path in own_files() if path.suffix != ".py"], [])

    def test_sizes_and_characters(self):
        for path in own_files():
            lines = path.read_text(encoding="utf-8").split("\n")
            self.assertLess(len(lines), 400, path)
            for line in lines:
                self.assertLessEqual(len(line), 120, path)
                self.assertTrue(all(" " <= sign <= "~" for sign in line), path)

    def test_functions_have_at_most_forty_lines(self):
        for path, tree in trees():
            for node in ast.walk(tree):
                if isinstance(node, ast.FunctionDef):
                    self.assertLessEqual(node.end_lineno - node.lineno + 1, 40, (path, node.name))


class Code(unittest.TestCase):
    def test_module_level(self):
        for path, tree in trees():
            for node in tree.body:
                self.assertIsInstance(node, MODULE_LEVEL, path)
                if isinstance(node, ast.Expr):
                    self.assertIs(node, tree.body[0], path)

    def test_imports(self):
        for path, tree in trees():
            for node in ast.walk(tree):
                if isinstance(node, ast.ImportFrom) and node.module in LIBRARY:
                    self.assertLessEqual({name.name for name in node.names}, LIBRARY[node.module], path)
                elif isinstance(node, ast.ImportFrom):
                    self.assertEqual((node.level, node.module.split(".")[0]), (0, "shuffledcuts"), path)

    def test_what_is_not_used(self):
        for path, tree in trees():
            for node in ast.walk(tree):
                self.assertNotIsInstance(node, (ast.AsyncFunctionDef, ast.Div, ast.Import), path)
                if isinstance(node, ast.Constant):
                    self.assertNotIsInstance(node.value, (float, complex), path)

    def test_no_name_of_a_builtin_is_given_another_meaning(self):
        for path, tree in trees():
            for name in bound_names(tree):
                self.assertNotIn(name, dir(builtins), path)
                self.assertFalse(name.startswith("__") and name != "__init__", path)

    def test_imported_names_are_used_and_given_no_other_meaning(self):
        for path, tree in trees():
            imported = {name.name for node in tree.body if isinstance(node, ast.ImportFrom) for name in node.names}
            used = {node.id for node in ast.walk(tree) if isinstance(node, ast.Name)}
            self.assertEqual((imported - used, imported & set(bound_names(tree))), (set(), set()), path)

    def test_the_builtins_that_are_called(self):
        barred = set(dir(builtins)) - BUILTINS
        for path, tree in trees():
            for node in ast.walk(tree):
                if isinstance(node, ast.Name):
                    self.assertNotIn(node.id, barred, path)


if __name__ == "__main__":
    unittest.main()
