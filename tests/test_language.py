"""The rules of ../shared/LANGUAGE.md that can be read off the code, for every file."""

import ast
import builtins
import functools
import pathlib
import re
import unittest

ROOT = pathlib.Path(__file__).resolve().parent.parent / "tiedrings"
FILES = sorted(ROOT.glob("*.py"))

STATEMENTS = (
    ast.FunctionDef, ast.ClassDef, ast.Return, ast.Delete, ast.Assign, ast.AugAssign, ast.AnnAssign,
    ast.For, ast.While, ast.If, ast.Raise, ast.Try, ast.Assert, ast.ImportFrom, ast.Expr, ast.Pass,
    ast.Break, ast.Continue, ast.Nonlocal, ast.With, ast.Match,
)
BUILTINS = set(
    "len range enumerate zip min max sum abs sorted reversed int str bool list tuple dict set"
    " isinstance ord repr any all divmod iter ValueError super property classmethod staticmethod"
    " KeyError IndexError TypeError".split())
LIBRARY = {
    "heapq": {"heappush", "heappop", "heapify"}, "collections": {"deque", "defaultdict"},
    "math": {"gcd", "lcm", "isqrt", "comb", "perm", "factorial"},
    "itertools": {"product", "combinations", "permutations"},
}
METHODS = set(
    "append clear copy count endswith extend find get index insert isalnum isalpha isdigit islower"
    " isspace isupper items join keys ljust lower lstrip partition pop remove replace reverse rfind"
    " rjust rpartition rsplit rstrip setdefault split splitlines startswith strip update upper"
    " values zfill bit_length isascii add discard".split())
DUNDERS = {"__init__", "__iter__"}
BARRED = set(
    "register mro elements open input law version_info with_traceback add_note attrgetter"
    " breakpoint builtins compile copyright credits delattr dir eval exec exit gc globals help id"
    " importlib license locals methodcaller os quit type vars sys".split())
WORDS = (
    r"\b(type|typing|typing_extensions|enum|Enum|IntEnum|StrEnum|Flag|IntFlag|Generic|Protocol|ABC"
    r"|ABCMeta|namedtuple|NamedTuple|TypedDict|TYPE_CHECKING|abstractmethod)\b"
    r"|dataclass|overload|contextmanager")
ITERATED = {"zip", "enumerate", "reversed"}


@functools.cache
def trees():
    return [(path.name, ast.parse(path.read_text())) for path in FILES]


def nodes(kind):
    for name, tree in trees():
        for node in ast.walk(tree):
            if isinstance(node, kind):
                yield name, node


@functools.cache
def own_names():
    """Every function, method and class that the package defines."""
    return {node.name for _, node in nodes((ast.FunctionDef, ast.ClassDef))}


@functools.cache
def generators():
    return {
        node.name for _, node in nodes(ast.FunctionDef)
        if any(isinstance(inner, (ast.Yield, ast.YieldFrom)) for inner in ast.walk(node))
    }


def is_setter(node):
    """Tell whether the method is the setter of a property."""
    return any(isinstance(line, ast.Attribute) for line in node.decorator_list)


def bound_names(tree):
    """The names that functions of a file give to parameters and local variables."""
    for node in ast.walk(tree):
        if isinstance(node, ast.arg):
            yield node.arg
        if isinstance(node, ast.Name) and isinstance(node.ctx, ast.Store):
            yield node.id
        if isinstance(node, (ast.MatchAs, ast.MatchStar)) and node.name is not None:
            yield node.name


class FilesTest(unittest.TestCase):
    def test_one_flat_package(self):
        found = {path.name for path in ROOT.iterdir() if path.name != "__pycache__"}
        self.assertEqual(found, {path.name for path in FILES})
        self.assertIn("__init__.py", found)
        for name in found:
            self.assertRegex(name, r"^[a-z][a-z0-9]*\.py$|^__init__\.py$")
            self.assertNotIn(name[:-3], dir(builtins))

    def test_sizes(self):
        for path in FILES:
            lines = path.read_text().split("\n")
            self.assertLessEqual(len(lines), 399, path.name)
            self.assertLessEqual(max(len(line) for line in lines), 120, path.name)
        for name, node in nodes(ast.FunctionDef):
            self.assertLessEqual(node.end_lineno - node.lineno + 1, 40, (name, node.name))

    def test_characters(self):
        for path in FILES:
            self.assertRegex(path.read_text(), r"\A[\n -~]*\Z", path.name)

    def test_no_warnings(self):
        import warnings
        with warnings.catch_warnings():
            warnings.simplefilter("error")
            for path in FILES:
                compile(path.read_text(), path.name, "exec")


class ModuleTest(unittest.TestCase):
    def test_module_level(self):
        for name, tree in trees():
            seen = set()
            for node in tree.body:
                if isinstance(node, ast.ImportFrom):
                    bound = [alias.name for alias in node.names]
                    self.assertFalse([a for a in node.names if a.asname], name)
                elif isinstance(node, (ast.FunctionDef, ast.ClassDef)):
                    bound = [node.name]
                elif isinstance(node, ast.Assign):
                    self.assertEqual(len(node.targets), 1, name)
                    bound = [node.targets[0].id]
                    ast.literal_eval(node.value)
                else:
                    self.assertIsInstance(node, ast.Expr, name)
                    self.assertIsInstance(node.value.value, str, name)
                    bound = []
                for word in bound:
                    self.assertNotIn(word, seen, name)
                    self.assertNotIn(word, dir(builtins), name)
                    seen.add(word)

    def test_imports(self):
        used = {}
        for name, node in nodes((ast.Import, ast.ImportFrom)):
            self.assertIsInstance(node, ast.ImportFrom, name)
            self.assertEqual(node.level, 0, name)
            if node.module in LIBRARY:
                self.assertLessEqual({alias.name for alias in node.names}, LIBRARY[node.module])
                continue
            self.assertRegex(node.module, r"^tiedrings\.[a-z]+$", name)
            used.setdefault(name[:-3], set()).add(node.module.split(".")[1])
            defined = ast.parse((ROOT / (node.module.split(".")[1] + ".py")).read_text())
            here = {n.name for n in defined.body if isinstance(n, (ast.FunctionDef, ast.ClassDef))}
            here |= {n.targets[0].id for n in defined.body if isinstance(n, ast.Assign)}
            self.assertLessEqual({alias.name for alias in node.names}, here, name)
        self.assert_no_circle(used)

    def assert_no_circle(self, used):
        done = set()
        left = {path.stem for path in FILES}
        while left:
            ready = {name for name in left if used.get(name, set()) <= done}
            self.assertTrue(ready, f"files that import from each other: {left}")
            done |= ready
            left -= ready

    def test_imports_are_used(self):
        for name, tree in trees():
            read = {n.id for n in ast.walk(tree) if isinstance(n, ast.Name)}
            for node in tree.body:
                if isinstance(node, ast.ImportFrom):
                    for alias in node.names:
                        self.assertIn(alias.name, read, name)


class NamesTest(unittest.TestCase):
    def test_locals_hide_nothing(self):
        for name, tree in trees():
            above = {
                alias.name for node in tree.body if isinstance(node, ast.ImportFrom)
                for alias in node.names
            } | {node.name for node in tree.body if isinstance(node, ast.ClassDef)}
            for word in bound_names(tree):
                if word in {n.targets[0].id for n in tree.body if isinstance(n, ast.Assign)}:
                    continue
                self.assertNotIn(word, above, name)
                self.assertNotIn(word, dir(builtins), name)
                self.assertNotIn(word, BARRED, name)
                self.assertNotIn(word, generators(), name)
                self.assertNotRegex(word, r"^__|^_(wall|pe_|dcw_|enum_|cm_|lay_|law_|stub_|sre)")

    def test_barred_names(self):
        for name, node in nodes((ast.FunctionDef, ast.ClassDef, ast.Attribute)):
            word = node.attr if isinstance(node, ast.Attribute) else node.name
            self.assertNotIn(word, BARRED, name)
        for path in FILES:
            code = ast.unparse(without_docstrings(ast.parse(path.read_text())))
            self.assertIsNone(re.search(WORDS, code), path.name)

    def test_methods_and_functions(self):
        for name, node in nodes(ast.FunctionDef):
            if node.name.startswith("__"):
                self.assertIn(node.name, DUNDERS, name)
            for line in node.decorator_list:
                if isinstance(line, ast.Attribute):
                    self.assertEqual((line.value.id, line.attr), (node.name, "setter"), name)
                else:
                    self.assertIn(line.id, ("property", "classmethod", "staticmethod"), name)
        for name, node in nodes(ast.ClassDef):
            methods = [
                n.name for n in node.body if isinstance(n, ast.FunctionDef) and not is_setter(n)]
            self.assertEqual(len(methods), len(set(methods)), name)
            self.assertFalse(set(methods) & METHODS, name)

    def test_methods_of_values(self):
        own = own_names()
        for name, node in nodes(ast.Call):
            if isinstance(node.func, ast.Attribute):
                self.assertTrue(node.func.attr in METHODS | own | {"__init__"}, (name, node.func.attr))
                self.assertNotEqual(node.func.attr, "sort", name)
                if node.func.attr in METHODS:
                    self.assertEqual(node.keywords, [], name)

    def test_builtins(self):
        for name, node in nodes(ast.Name):
            if node.id in dir(builtins):
                self.assertIn(node.id, BUILTINS, name)

    def test_attributes_are_no_methods_of_the_class(self):
        for name, node in nodes(ast.ClassDef):
            kept = [n for n in node.body if isinstance(n, ast.FunctionDef)]
            methods = {n.name for n in kept} - {n.name for n in kept if is_setter(n)}
            stored = {
                n.attr for n in ast.walk(node)
                if isinstance(n, ast.Attribute) and isinstance(n.ctx, ast.Store)
            }
            self.assertFalse(methods & stored, name)


def without_docstrings(tree):
    for node in ast.walk(tree):
        if isinstance(node, (ast.Module, ast.FunctionDef, ast.ClassDef)):
            first = node.body[0] if node.body else None
            if isinstance(first, ast.Expr) and isinstance(first.value, ast.Constant):
                node.body = node.body[1:] or [ast.Pass()]
    return tree


class CodeTest(unittest.TestCase):
    def test_statements(self):
        for name, node in nodes(ast.stmt):
            self.assertIsInstance(node, STATEMENTS, name)

    def test_numbers_and_signs(self):
        for name, node in nodes(ast.Constant):
            self.assertNotIsInstance(node.value, (float, complex), name)
        for name, node in nodes((ast.BinOp, ast.AugAssign)):
            self.assertNotIsInstance(node.op, (ast.Div, ast.MatMult), name)
        for name, node in nodes(ast.BinOp):
            if isinstance(node.op, ast.Pow):
                self.assertIsInstance(node.right, ast.Constant, name)

    def test_strings(self):
        for path in FILES:
            for node in ast.walk(without_docstrings(ast.parse(path.read_text()))):
                if isinstance(node, ast.Constant) and isinstance(node.value, str):
                    self.assertNotIn("%", node.value, path.name)
                    self.assertNotRegex(node.value, r"\._{1,2}$|__", path.name)

    def test_is(self):
        for name, node in nodes(ast.Compare):
            for op, right in zip(node.ops, node.comparators):
                if isinstance(op, (ast.Is, ast.IsNot)):
                    self.assertIn(right.value, (None, True, False), name)

    def test_sets_stand_where_they_may(self):
        for name, tree in trees():
            above = {kid: node for node in ast.walk(tree) for kid in ast.iter_child_nodes(node)}
            for node in ast.walk(tree):
                made = isinstance(node, (ast.Set, ast.SetComp)) or (
                    isinstance(node, ast.Call) and getattr(node.func, "id", "") == "set")
                if not made:
                    continue
                holder = above[node]
                while isinstance(holder, ast.BinOp):
                    holder = above[holder]
                if isinstance(holder, ast.Call):
                    self.assertIn(holder.func.id, ("sorted", "len"), name)
                else:
                    self.assertIsInstance(holder, (ast.Compare, ast.Assign), name)

    def test_kept_iterators(self):
        for name, node in nodes((ast.Assign, ast.Return)):
            if isinstance(node.value, ast.Call) and isinstance(node.value.func, ast.Name):
                self.assertNotIn(node.value.func.id, ITERATED | {"range", "map"}, name)
                self.assertNotIn(node.value.func.id, generators(), name)

    def test_errors_are_raised_on_the_spot(self):
        for name, node in nodes(ast.Raise):
            self.assertIsInstance(node.exc, ast.Call, name)
            self.assertIsInstance(node.exc.func, ast.Name, name)

    def test_only_own_errors_are_caught(self):
        for name, node in nodes(ast.ExceptHandler):
            self.assertIn(node.type.id, own_names(), name)
            self.assertIsNone(node.name, name)

    def test_no_generator_shares_its_name(self):
        names = [node.name for _, node in nodes(ast.FunctionDef)]
        for word in generators():
            self.assertEqual(names.count(word), 1)

    def test_loops_do_not_change_what_they_go_over(self):
        for name, node in nodes(ast.For):
            over = {n.id for n in ast.walk(node.iter) if isinstance(n, ast.Name)}
            for inner in ast.walk(node):
                if isinstance(inner, ast.Call) and isinstance(inner.func, ast.Attribute):
                    if inner.func.attr in ("append", "extend", "pop", "insert", "remove", "clear"):
                        changed = getattr(inner.func.value, "id", None)
                        self.assertNotIn(changed, over, (name, node.lineno))
