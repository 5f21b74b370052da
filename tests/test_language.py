"""The rules of the language that can be measured: files, imports, sizes, characters and barred words."""

import ast
import builtins
import pathlib
import re
import unittest

PACKAGE = pathlib.Path(__file__).resolve().parent.parent / "keptjoined"
LIBRARY = {"heapq", "math", "itertools", "collections", "__future__"}
BUILTINS = set("len range enumerate zip min max sum abs sorted reversed int str bool bytes list tuple dict set frozenset"
               " isinstance ord repr any all divmod pow getattr hasattr setattr iter next map property staticmethod"
               " classmethod super object float Exception ValueError TypeError KeyError IndexError LookupError"
               " ZeroDivisionError ArithmeticError OverflowError RuntimeError NotImplementedError AttributeError"
               " StopIteration NotImplemented".split())
NO_NAMES_HERE = set("register mro elements open input law version_info with_traceback add_note".split())
NO_WORDS = re.compile(r"\b(typing|typing_extensions|enum|Enum|IntEnum|StrEnum|Flag|IntFlag|Generic|Protocol|ABC|ABCMeta"
                      r"|namedtuple|NamedTuple|TypedDict|TYPE_CHECKING|abstractmethod)\b"
                      r"|dataclass|overload|contextmanager")


def package_files():
    return sorted(path for path in PACKAGE.rglob("*") if path.is_file() and "__pycache__" not in path.parts)


def without_docstrings(tree):
    for node in ast.walk(tree):
        if isinstance(node, (ast.Module, ast.ClassDef, ast.FunctionDef)) and ast.get_docstring(node) is not None:
            node.body = node.body[1:] or [ast.Pass()]
    return tree


class LanguageTest(unittest.TestCase):
    def trees(self):
        for path in package_files():
            yield path.name, ast.parse(path.read_text(encoding="utf-8"))

    def test_files(self):
        for path in package_files():
            self.assertRegex(path.name, r"^[a-z_][a-z0-9_]*\.py$")
            text = path.read_bytes().decode("utf-8")
            self.assertTrue(all(" " <= sign <= "~" or sign == "\n" for sign in text), path.name)
            rows = text.splitlines()
            self.assertLessEqual(len(rows), 399, path.name)
            for number, row in enumerate(rows, 1):
                self.assertLessEqual(len(row), 120, f"{path.name}:{number}")
                self.assertNotRegex(row, "_wall|_WallAttr", f"{path.name}:{number}")

    def test_functions_have_at_most_40_lines(self):
        for name, tree in self.trees():
            for node in ast.walk(tree):
                if isinstance(node, ast.FunctionDef):
                    self.assertLessEqual(node.end_lineno - node.lineno + 1, 40, f"{name}: {node.name}")

    def test_imports_name_the_file_that_defines_and_form_no_circle(self):
        wants = {}
        for name, tree in self.trees():
            module = "keptjoined." + name[:-3]
            wants[module] = set()
            for node in ast.walk(tree):
                self.assertNotIsInstance(node, ast.Import, name)
                if isinstance(node, ast.ImportFrom) and node.module not in LIBRARY:
                    self.assertTrue(node.level == 0 and node.module.startswith("keptjoined."), name)
                    source = (PACKAGE / (node.module.split(".")[1] + ".py")).read_text(encoding="utf-8")
                    for alias in node.names:
                        self.assertRegex(source, rf"(?m)^((def|class) {alias.name}\b|{alias.name} = )", name)
                    wants[module].add(node.module)
        while wants:
            ready = [module for module, wanted in wants.items() if not wanted & set(wants)]
            self.assertTrue(ready, f"a circle among {sorted(wants)}")
            for module in ready:
                del wants[module]

    def test_words_and_builtins(self):
        for name, tree in self.trees():
            self.assertIsNone(NO_WORDS.search(ast.unparse(without_docstrings(tree))), name)
            bound, used, attributes = set(), set(), set()
            for node in ast.walk(tree):
                self.assertNotIsInstance(node, (ast.Global, ast.Div, ast.AsyncFunctionDef, ast.Await), name)
                if isinstance(node, ast.Constant):
                    self.assertNotIsInstance(node.value, float, name)
                    self.assertNotIn("%", str(node.value), name)
                elif isinstance(node, ast.Name):
                    (used if isinstance(node.ctx, ast.Load) else bound).add(node.id)
                elif isinstance(node, ast.Attribute):
                    attributes.add(node.attr)
                elif isinstance(node, ast.arg):
                    bound.add(node.arg)
                elif isinstance(node, (ast.FunctionDef, ast.ClassDef, ast.alias, ast.ExceptHandler, ast.MatchAs,
                                       ast.MatchStar)):
                    bound.add(node.name)
            self.assertEqual(bound & set(dir(builtins)), set(), name)
            self.assertEqual(used - bound - BUILTINS, set(), name)
            self.assertEqual((bound | attributes) & NO_NAMES_HERE, set(), name)


if __name__ == "__main__":
    unittest.main()
