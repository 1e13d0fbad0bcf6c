"""The plainest rules of the language that the package keeps to."""

import ast
import builtins
import pathlib
import re
import unittest

PACKAGE = pathlib.Path(__file__).resolve().parent.parent / "keydeeds"
FILES = sorted(PACKAGE.glob("*.py"))
BUILTINS = set(
    "len range enumerate zip min max sum abs sorted reversed int str bool bytes list tuple dict set frozenset "
    "isinstance ord repr any all divmod Exception ValueError TypeError KeyError IndexError LookupError "
    "ZeroDivisionError ArithmeticError OverflowError RuntimeError NotImplementedError".split()
)
BARRED = re.compile(r"\b(type|typing|enum|Enum|Flag|Generic|Protocol|ABC|namedtuple|NamedTuple)\b|dataclass|overload")
METHODS = set(
    "append clear copy count endswith extend find get index insert isalnum isalpha isdigit islower isspace isupper "
    "items join keys ljust lower lstrip partition pop remove removeprefix removesuffix replace reverse rfind rjust "
    "rpartition rsplit rstrip setdefault split splitlines startswith strip update upper values zfill add "
    "discard".split()
)


def nodes(path, kinds):
    return [node for node in ast.walk(ast.parse(path.read_text())) if isinstance(node, kinds)]


class LanguageTests(unittest.TestCase):
    def test_only_python_files(self):
        beside = [path.name for path in PACKAGE.iterdir() if path.name != "__pycache__" and path not in FILES]
        self.assertEqual(beside, [])
        self.assertIn(PACKAGE / "__init__.py", FILES)

    def test_characters_and_sizes(self):
        for path in FILES:
            text = path.read_bytes().decode("ascii")
            self.assertIsNone(re.search(r"[^ -~\n]", text), path)
            self.assertNotIn("%", text, path)
            self.assertIsNone(BARRED.search(text), path)
            rows = text.splitlines()
            self.assertLessEqual(len(rows), 400, path)
            self.assertLessEqual(max(map(len, rows)), 120, path)
            for node in nodes(path, ast.FunctionDef):
                self.assertLessEqual(node.end_lineno - node.lineno + 1, 40, node.name)

    def test_imports_name_modules_of_the_package(self):
        for path in FILES:
            self.assertEqual(nodes(path, ast.Import), [], path)
            for node in nodes(path, ast.ImportFrom):
                self.assertEqual(node.level, 0, path)
                self.assertTrue(node.module.startswith("keydeeds."), path)
                self.assertNotIn("*", [alias.name for alias in node.names], path)

    def test_only_the_builtins_of_the_language(self):
        others = set(dir(builtins)) - BUILTINS
        for path in FILES:
            named = [node.id for node in nodes(path, ast.Name)] + [node.arg for node in nodes(path, ast.arg)]
            for name in named:
                self.assertNotIn(name, others, path)
                self.assertFalse(name.startswith("_"), name)

    def test_each_import_names_the_file_that_defines_it(self):
        for path in FILES:
            for node in nodes(path, ast.ImportFrom):
                other = PACKAGE / (node.module.removeprefix("keydeeds.") + ".py")
                defined = [found.name for found in nodes(other, (ast.FunctionDef, ast.ClassDef))]
                defined += [found.id for found in nodes(other, ast.Name) if isinstance(found.ctx, ast.Store)]
                for alias in node.names:
                    self.assertIn(alias.name, defined, path)
                    self.assertIsNone(alias.asname, path)

    def test_no_variable_has_the_name_of_an_import(self):
        for path in FILES:
            imported = [alias.name for node in nodes(path, ast.ImportFrom) for alias in node.names]
            bound = [node.id for node in nodes(path, ast.Name) if isinstance(node.ctx, ast.Store)]
            bound += [node.arg for node in nodes(path, ast.arg)]
            self.assertEqual(set(imported) & set(bound), set(), path)
            self.assertEqual(len(set(imported)), len(imported), path)

    def test_no_two_files_import_from_each_other(self):
        needs = {
            path.stem: [node.module.removeprefix("keydeeds.") for node in nodes(path, ast.ImportFrom)]
            for path in FILES
        }
        done = []
        while len(done) < len(needs):
            ready = [name for name in needs if name not in done and set(needs[name]) <= set(done)]
            self.assertNotEqual(ready, [], "a circle of imports")
            done.extend(ready)

    def test_only_the_methods_of_the_language(self):
        for path in FILES:
            for node in nodes(path, ast.Attribute):
                self.assertIn(node.attr, METHODS, path)


if __name__ == "__main__":
    unittest.main()
