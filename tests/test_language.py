"""Rules of the language that the package is written in, as far as they can be told at a glance."""

import ast
import builtins
import re
import unittest
from pathlib import Path

FOLDER = Path(__file__).resolve().parent.parent / "toldreasons"
FILES = sorted(FOLDER.rglob("*.py"))
LIBRARY = {"heapq", "math", "itertools", "collections"}
BANNED_NODES = (ast.Global, ast.AsyncFunctionDef, ast.AsyncFor, ast.AsyncWith, ast.Await, ast.Div)
BANNED_WORDS = {"register", "mro", "elements", "open", "input", "law", "type", "typing", "enum", "eval", "exec", "id"}
BUILTINS = set(dir(builtins))


class LanguageTest(unittest.TestCase):
    def trees(self):
        for path in FILES:
            yield path, ast.parse(path.read_text(encoding="utf-8"))

    def test_the_folder_holds_nothing_else(self):
        others = [path for path in FOLDER.rglob("*") if path.is_file() and path.suffix not in (".py", ".pyc")]
        self.assertEqual(others, [])
        self.assertTrue((FOLDER / "__init__.py").is_file())

    def test_sizes_and_signs(self):
        for path in FILES:
            text = path.read_text(encoding="utf-8")
            lines = text.split("\n")
            self.assertLess(len(lines), 401, path)
            self.assertLessEqual(max(len(line) for line in lines), 120, path)
            self.assertTrue(all(sign == "\n" or " " <= sign <= "~" for sign in text), path)

    def test_functions_have_at_most_forty_lines(self):
        for path, tree in self.trees():
            for node in ast.walk(tree):
                if isinstance(node, ast.FunctionDef):
                    self.assertLessEqual(node.end_lineno - node.lineno + 1, 40, (path, node.name))
                    self.assertEqual([d for d in node.decorator_list], [], (path, node.name))

    def test_imports(self):
        for path, tree in self.trees():
            for node in ast.walk(tree):
                self.assertNotIsInstance(node, ast.Import, path)
                if isinstance(node, ast.ImportFrom):
                    self.assertEqual(node.level, 0, path)
                    own = node.module.startswith("toldreasons.")
                    self.assertTrue(own or node.module in LIBRARY, (path, node.module))

    def test_imports_are_used_and_defined_where_they_are_taken_from(self):
        defined = {}
        for path, tree in self.trees():
            own = [node.name for node in tree.body if isinstance(node, (ast.FunctionDef, ast.ClassDef))]
            defined[f"toldreasons.{path.stem}"] = own
        for path, tree in self.trees():
            used = {node.id for node in ast.walk(tree) if isinstance(node, ast.Name)}
            for node in tree.body:
                if isinstance(node, ast.ImportFrom):
                    for name in node.names:
                        self.assertIn(name.name, used, path)
                        self.assertIn(name.name, defined.get(node.module, [name.name]), path)

    def test_no_two_files_import_from_each_other(self):
        taken = {}
        for path, tree in self.trees():
            modules = [node.module for node in tree.body if isinstance(node, ast.ImportFrom)]
            taken[path.stem] = {module.partition(".")[2] for module in modules if module.startswith("toldreasons.")}
        while taken:
            free = [name for name, others in taken.items() if not others & set(taken)]
            self.assertNotEqual(free, [], taken)
            for name in free:
                del taken[name]

    def test_stars_stand_before_names(self):
        for path, tree in self.trees():
            for node in ast.walk(tree):
                if isinstance(node, ast.Starred):
                    self.assertIsInstance(node.value, (ast.Name, ast.Attribute, ast.Tuple, ast.List), (path, node.lineno))

    def test_sets_stand_where_they_may(self):
        for path, tree in self.trees():
            for node in ast.walk(tree):
                if isinstance(node, (ast.For, ast.comprehension)):
                    is_call = isinstance(node.iter, ast.Call) and getattr(node.iter.func, "id", "") == "set"
                    self.assertFalse(is_call or isinstance(node.iter, (ast.Set, ast.SetComp)), path)
                if isinstance(node, (ast.Return, ast.Assign)):
                    self.assertNotIsInstance(node.value, (ast.Set, ast.SetComp), path)

    def test_what_does_not_occur(self):
        for path, tree in self.trees():
            for node in ast.walk(tree):
                self.assertNotIsInstance(node, BANNED_NODES, path)
                if isinstance(node, ast.Constant):
                    self.assertNotIsInstance(node.value, (float, complex), path)
                    self.assertNotIn("%", str(node.value), path)

    def test_banned_words(self):
        for path, tree in self.trees():
            for node in ast.walk(tree):
                words = [getattr(node, field, None) for field in ("id", "attr", "arg", "name")]
                self.assertEqual(BANNED_WORDS & {word for word in words if isinstance(word, str)}, set(), path)
            for name in re.findall(r"\b__\w+", path.read_text(encoding="utf-8")):
                self.assertIn(name, ("__init__",), path)

    def test_own_names_are_no_builtins(self):
        for path, tree in self.trees():
            imported = set()
            for node in ast.walk(tree):
                if isinstance(node, ast.ImportFrom):
                    imported |= {name.name for name in node.names}
            for node in ast.walk(tree):
                names = []
                if isinstance(node, ast.FunctionDef):
                    names = [argument.arg for argument in node.args.args]
                if isinstance(node, ast.Name) and isinstance(node.ctx, ast.Store):
                    names = [node.id]
                for name in names:
                    self.assertNotIn(name, BUILTINS, path)
                    self.assertNotIn(name, imported, path)


if __name__ == "__main__":
    unittest.main()
