"""The rules of the language that can be measured: files, imports, sizes, characters and barred words."""

import ast
import builtins
import pathlib
import re
import unittest

PACKAGE = pathlib.Path(__file__).resolve().parent.parent / "keptjoined"
LIBRARY = {"heapq", "math", "itertools", "collections", "__future__"}
BUILTINS = set("len range enumerate zip min max sum abs sorted reversed int str bool bytes list tuple dict set frozenset"
               " isinstance ord repr any all divmod pow getattr hasattr setattr iter next map property staticmethod"
               " classmethod super object float Exception ValueError TypeError KeyError IndexError LookupError"
               " ZeroDivisionError ArithmeticError OverflowError RuntimeError NotImplementedError AttributeError"
               " StopIteration NotImplemented".split())
NO_NAMES_HERE = set("register mro elements open input law version_info with_traceback add_note".split())
# Names of variables, functions, classes, imports, parameters, errors and methods that L17 bars.
NO_BOUND = set("attrgetter breakpoint builtins compile copyright credits delattr dir eval exec exit gc getattr globals hasattr"
               " help id importlib license locals methodcaller os quit setattr super type vars sys __name__".split())
# What no name begins with, or no name is (L12).
NO_STARTS = re.compile(r"_wall|_pe_|_dcw_|_enum_|_cm_|_twin_re_|_lay_|_law_|_stub_|_sre|_WallAttr"
                       r"|_(cold|tuplegetter|outside|record|written_out|member_names)[0-9_]*$|__")
LISTED = set("append clear copy count endswith extend find get index insert isalnum isalpha isdigit islower isspace isupper"
             " items join keys ljust lower lstrip partition pop remove replace reverse rfind rjust rpartition rsplit rstrip"
             " setdefault split splitlines startswith strip update upper values zfill bit_length".split())
ALL_METHODS = {name for value in ("", 0, [], {}, set(), b"", ()) for name in dir(value) if not name.startswith("__")}
NO_WORDS = re.compile(r"\b(typing|typing_extensions|enum|Enum|IntEnum|StrEnum|Flag|IntFlag|Generic|Protocol|ABC|ABCMeta"
                      r"|namedtuple|NamedTuple|TypedDict|TYPE_CHECKING|abstractmethod)\b"
                      r"|dataclass|overload|contextmanager")
VIEWS = {"enumerate", "zip", "reversed", "items", "keys", "values"}
MODIFYING = {"append", "clear", "extend", "insert", "pop", "remove", "reverse", "setdefault", "update", "sort"}


def package_files():
    return sorted(path for path in PACKAGE.rglob("*") if path.is_file() and "__pycache__" not in path.parts)


def without_docstrings(tree):
    for node in ast.walk(tree):
        if isinstance(node, (ast.Module, ast.ClassDef, ast.FunctionDef)) and ast.get_docstring(node) is not None:
            node.body = node.body[1:] or [ast.Pass()]
    return tree


def choices(node):
    """What an expression may give, each as text: both sides of a choice, what a view or an enumerate goes over."""
    if isinstance(node, ast.IfExp):
        return choices(node.body) | choices(node.orelse)
    if isinstance(node, ast.BoolOp):
        return set().union(*map(choices, node.values))
    if isinstance(node, ast.Call) and isinstance(node.func, ast.Name) and node.func.id in VIEWS:
        return set().union(*map(choices, node.args))
    if isinstance(node, ast.Call) and isinstance(node.func, ast.Attribute) and node.func.attr in VIEWS:
        return choices(node.func.value)
    return {ast.unparse(node)} if isinstance(node, (ast.Name, ast.Attribute, ast.Subscript)) else set()


def same_things(function):
    """For each text that is assigned from another one in a function all that may stand for the same list."""
    groups = []
    for node in ast.walk(function):
        if isinstance(node, ast.Assign):
            groups.append(choices(node.value).union(*map(choices, node.targets)))
            for target in node.targets:
                if isinstance(target, ast.Tuple) and isinstance(node.value, ast.Tuple):
                    groups += [choices(left) | choices(right) for left, right in zip(target.elts, node.value.elts)]
    return groups


def widened(texts, groups):
    for _ in groups:
        for group in groups:
            if texts & group:
                texts = texts | group
    return texts


def changed_in(body):
    """The texts that the rows of a loop change: by a method, an item, a slice, del, or += and the like."""
    found = set()
    for node in [inner for row in body for inner in ast.walk(row)]:
        if isinstance(node, ast.Call) and isinstance(node.func, ast.Attribute) and node.func.attr in MODIFYING:
            found |= choices(node.func.value)
        elif isinstance(node, ast.Subscript) and not isinstance(node.ctx, ast.Load):
            found |= choices(node.value)
        elif isinstance(node, ast.AugAssign):
            found |= choices(node.target)
    return found


def faults_of_loops(function):
    """The rows of the loops of a function that change what they go over, also under another name (L23)."""
    groups = same_things(function)
    return [node.lineno for node in ast.walk(function) if isinstance(node, ast.For)
            and widened(choices(node.iter), groups) & changed_in(node.body)]


class LanguageTest(unittest.TestCase):
    def trees(self):
        for path in package_files():
            yield path.name, ast.parse(path.read_text(encoding="utf-8"))

    def test_files(self):
        for path in package_files():
            self.assertRegex(path.name, r"^[a-z_][a-z0-9_]*\.py$")
            text = path.read_bytes().decode("utf-8")
            self.assertTrue(all(" " <= sign <= "~" or sign == "\n" for sign in text), path.name)
            rows = text.splitlines()
            self.assertLessEqual(len(rows), 399, path.name)
            for number, row in enumerate(rows, 1):
                self.assertLessEqual(len(row), 120, f"{path.name}:{number}")
                self.assertNotRegex(row, "_wall|_WallAttr", f"{path.name}:{number}")

    def test_functions_have_at_most_40_lines(self):
        for name, tree in self.trees():
            for node in ast.walk(tree):
                if isinstance(node, ast.FunctionDef):
                    self.assertLessEqual(node.end_lineno - node.lineno + 1, 40, f"{name}: {node.name}")

    def test_imports_name_the_file_that_defines_and_form_no_circle(self):
        wants = {}
        for name, tree in self.trees():
            module = "keptjoined." + name[:-3]
            wants[module] = set()
            for node in ast.walk(tree):
                self.assertNotIsInstance(node, ast.Import, name)
                if isinstance(node, ast.ImportFrom) and node.module not in LIBRARY:
                    self.assertTrue(node.level == 0 and node.module.startswith("keptjoined."), name)
                    source = (PACKAGE / (node.module.split(".")[1] + ".py")).read_text(encoding="utf-8")
                    for alias in node.names:
                        self.assertRegex(source, rf"(?m)^((def|class) {alias.name}\b|{alias.name} = )", name)
                    wants[module].add(node.module)
        while wants:
            ready = [module for module, wanted in wants.items() if not wanted & set(wants)]
            self.assertTrue(ready, f"a circle among {sorted(wants)}")
            for module in ready:
                del wants[module]

    def test_loops_do_not_change_what_they_go_over(self):
        for name, tree in self.trees():
            for node in ast.walk(tree):
                if isinstance(node, ast.FunctionDef):
                    self.assertEqual(faults_of_loops(node), [], f"{name}: {node.name}")

    def test_such_loops_are_found(self):
        for rows in ["for x in xs:\n  xs.append(x)", "for x in ys:\n  xs.append(x)\nys = xs", "for k in d:\n  del d[k]",
                     "for at, x in enumerate(xs):\n  xs[at] = x", "for k in a.d.items():\n  a.d.pop(k)",
                     "for x in xs if c else ys:\n  ys += [x]", "ys, zs = xs, 0\nfor x in xs:\n  ys.clear()"]:
            self.assertEqual(len(faults_of_loops(ast.parse(rows))), 1, rows)
        for rows in ["for x in list(xs):\n  xs.append(x)", "for x in xs:\n  ys.append(x)", "for k in d:\n  e[k] = d[k]"]:
            self.assertEqual(faults_of_loops(ast.parse(rows)), [], rows)

    def test_names_that_mean_one_thing(self):
        methods, attributes = set(), set()
        for name, tree in self.trees():
            top = {node.name for node in tree.body if isinstance(node, (ast.FunctionDef, ast.ClassDef))}
            top |= {alias.name for node in tree.body if isinstance(node, ast.ImportFrom) for alias in node.names}
            for node in ast.walk(tree):
                if isinstance(node, ast.ClassDef):
                    methods |= {row.name for row in node.body if isinstance(row, ast.FunctionDef)}
                elif isinstance(node, ast.Attribute) and isinstance(node.ctx, ast.Store):
                    attributes.add(node.attr)
                elif isinstance(node, ast.FunctionDef):
                    self.assertEqual(top & {inner.arg for inner in ast.walk(node) if isinstance(inner, ast.arg)}, set(), name)
                    self.assertEqual(top & {inner.id for inner in ast.walk(node) if isinstance(inner, ast.Name)
                                            and isinstance(inner.ctx, ast.Store)}, set(), name)
        # A method or a property and an attribute of one name are allowed at times (L18), but never needed here.
        self.assertEqual(methods & attributes, set())

    def test_words_and_builtins(self):
        for name, tree in self.trees():
            self.assertIsNone(NO_WORDS.search(ast.unparse(without_docstrings(tree))), name)
            bound, used, attributes = set(), set(), set()
            for node in ast.walk(tree):
                self.assertNotIsInstance(node, (ast.Global, ast.Div, ast.AsyncFunctionDef, ast.Await), name)
                if isinstance(node, ast.Constant):
                    self.assertNotIsInstance(node.value, float, name)
                    self.assertNotIn("%", str(node.value), name)
                elif isinstance(node, ast.Name):
                    (used if isinstance(node.ctx, ast.Load) else bound).add(node.id)
                elif isinstance(node, ast.Attribute):
                    attributes.add(node.attr)
                elif isinstance(node, ast.arg):
                    bound.add(node.arg)
                elif isinstance(node, (ast.FunctionDef, ast.ClassDef, ast.alias, ast.ExceptHandler, ast.MatchAs,
                                       ast.MatchStar)):
                    bound.add(node.name)
            self.assertEqual(bound & set(dir(builtins)), set(), name)
            self.assertEqual(used - bound - BUILTINS, set(), name)
            self.assertEqual((bound | attributes) & NO_NAMES_HERE, set(), name)


    def test_names_that_are_barred(self):
        for name, tree in self.trees():
            for node in ast.walk(tree):
                found = []
                if isinstance(node, ast.Name):
                    found = [node.id]
                elif isinstance(node, (ast.FunctionDef, ast.ClassDef, ast.alias, ast.ExceptHandler)):
                    found = [node.name]
                elif isinstance(node, ast.arg):
                    found = [node.arg]
                # `super` may be read.
                if not isinstance(node, ast.Name) or not isinstance(node.ctx, ast.Load):
                    self.assertEqual(NO_BOUND & set(found), set(), name)
                if isinstance(node, ast.Attribute):
                    found = [node.attr]
                for word in found:
                    if word is not None and not re.fullmatch("__[a-z]+__", word):
                        self.assertIsNone(NO_STARTS.match(word), f"{name}: {word}")

    def test_methods_of_builtin_values(self):
        for name, tree in self.trees():
            for node in ast.walk(tree):
                if isinstance(node, ast.ClassDef):
                    own = {row.name for row in node.body if isinstance(row, ast.FunctionDef)}
                    self.assertEqual(own & ALL_METHODS, set(), name)
                elif isinstance(node, ast.Attribute) and isinstance(node.ctx, ast.Store):
                    self.assertFalse(node.attr in ALL_METHODS, f"{name}: {node.attr}")
                elif isinstance(node, ast.Call) and isinstance(node.func, ast.Attribute):
                    self.assertFalse(node.func.attr in ALL_METHODS - LISTED, f"{name}: {node.func.attr}")
                elif isinstance(node, ast.Constant) and isinstance(node.value, str):
                    self.assertFalse(node.value.endswith(("._", ".__")), name)

    def test_no_import_is_idle(self):
        for name, tree in self.trees():
            used = {node.id for node in ast.walk(tree) if isinstance(node, ast.Name)}
            wanted = {alias.name for node in tree.body if isinstance(node, ast.ImportFrom) for alias in node.names}
            self.assertEqual(wanted - used, set(), name)


if __name__ == "__main__":
    unittest.main()
