"""The rules of the language subset that can be seen in the code: files, imports, names, sizes, builtins, methods."""

import ast
import builtins
import re
import unittest
from pathlib import Path

PACKAGE = Path(__file__).parent.parent / "starsinaring"
FILES = sorted(PACKAGE.glob("*.py"))
LIBRARY = {
    "math": {"gcd", "lcm", "isqrt", "comb", "perm", "factorial"},
    "heapq": {"heappush", "heappop", "heapify", "heapreplace", "heappushpop"},
}
BUILTINS = set(
    "len range enumerate zip min max sum abs sorted reversed int str bool list tuple dict set isinstance ord repr any all"
    " divmod map ValueError LookupError KeyError".split()
)
METHODS = set(
    "add append clear copy count endswith extend find get index insert items join keys pop remove replace reverse setdefault"
    " split startswith strip update values".split()
)
CHANGING = set("add append clear extend insert pop remove reverse setdefault update".split())
BANNED_NAMES = set(
    "register mro elements open input law version_info with_traceback add_note compile dir eval exec exit id help os sys"
    " vars super".split()
)
BANNED_NODES = (
    ast.GeneratorExp, ast.AsyncFunctionDef, ast.Await, ast.Global, ast.Yield, ast.YieldFrom, ast.Try, ast.With, ast.Import,
    ast.Div, ast.Pow, ast.JoinedStr, ast.AnnAssign, ast.NamedExpr, ast.Delete, ast.Lambda,
)
BANNED_WORDS = re.compile(
    r"\b(type|typing|typing_extensions|[eE]num|IntEnum|StrEnum|Flag|IntFlag|Generic|Protocol|ABC|ABCMeta|namedtuple|NamedTuple"
    r"|TypedDict|TYPE_CHECKING|abstractmethod)\b|dataclass|overload|contextmanager|_wall"
)


def parsed():
    return {path.stem: ast.parse(path.read_text()) for path in FILES}


def names_in(node):
    return {own.id for own in ast.walk(node) if isinstance(own, ast.Name)}


def bound_names(tree):
    """All names that the file binds: imports, functions, classes, parameters, variables."""
    names = set()
    for node in ast.walk(tree):
        if isinstance(node, (ast.FunctionDef, ast.ClassDef)):
            names.add(node.name)
        elif isinstance(node, ast.arg):
            names.add(node.arg)
        elif isinstance(node, ast.alias):
            names.add(node.asname or node.name)
        elif isinstance(node, ast.Name) and isinstance(node.ctx, ast.Store):
            names.add(node.id)
    return names


class Language(unittest.TestCase):
    def test_files(self):
        for path in PACKAGE.iterdir():
            if path.name != "__pycache__":
                self.assertTrue(path.suffix == ".py" and path.stem.replace("_", "").isalnum(), path.name)
                self.assertEqual(path.name.lower(), path.name)
        self.assertIn(PACKAGE / "__init__.py", FILES)

    def test_signs_and_sizes(self):
        for path in FILES:
            text = path.read_text()
            self.assertTrue(all(sign == "\n" or " " <= sign <= "~" for sign in text), path.name)
            rows = text.split("\n")
            self.assertLessEqual(len(rows), 399)
            self.assertLessEqual(max(len(row) for row in rows), 120, path.name)
            self.assertIsNone(BANNED_WORDS.search(text), path.name)
        for name, tree in parsed().items():
            for node in ast.walk(tree):
                if isinstance(node, ast.FunctionDef):
                    self.assertLessEqual(node.end_lineno - node.lineno + 1, 40, (name, node.name))

    def test_module_level(self):
        for name, tree in parsed().items():
            self.assertIsInstance(tree.body[0], ast.Expr, f"{name} has no docstring")
            above = set()
            for node in tree.body[1:]:
                self.assertIsInstance(node, (ast.ImportFrom, ast.FunctionDef, ast.ClassDef, ast.Assign), name)
                if isinstance(node, ast.FunctionDef):
                    above.add(node.name)
                elif isinstance(node, ast.Assign):
                    self.plain_value(node.value, above)

    def plain_value(self, value, above):
        """That value is a literal, or a dict of functions that stand above it in the file."""
        if isinstance(value, ast.Dict) and all(isinstance(own, ast.Name) for own in value.values):
            self.assertLessEqual({own.id for own in value.values}, above)
            value = ast.Dict(value.keys, [ast.Constant(0) for _ in value.values])
        ast.literal_eval(value)

    def test_imports(self):
        trees = parsed()
        leads = {}
        for name, tree in trees.items():
            leads[name] = set()
            for node in ast.walk(tree):
                if isinstance(node, ast.ImportFrom):
                    self.assertEqual(0, node.level)
                    self.assertTrue(all(own.asname is None for own in node.names))
                    if node.module in LIBRARY:
                        self.assertLessEqual({own.name for own in node.names}, LIBRARY[node.module])
                        continue
                    package, file = node.module.split(".")
                    self.assertEqual("starsinaring", package)
                    leads[name].add(file)
                    told = {own.name for own in trees[file].body if isinstance(own, (ast.FunctionDef, ast.ClassDef))}
                    self.assertLessEqual({own.name for own in node.names}, told, (name, file))
        while leads:
            ends = {name for name, files in leads.items() if not files & set(leads)}
            self.assertTrue(ends, f"files that import one another: {sorted(leads)}")
            leads = {name: files for name, files in leads.items() if name not in ends}

    def test_names(self):
        for name, tree in parsed().items():
            bound = bound_names(tree)
            # doctest leaves its last answer there, by the name of a bar
            self.assertFalse(bound & (set(dir(builtins)) - {"_"} | BANNED_NAMES), name)
            top = [own.name for own in tree.body if isinstance(own, (ast.FunctionDef, ast.ClassDef))]
            top += [own.name for node in tree.body if isinstance(node, ast.ImportFrom) for own in node.names]
            self.assertEqual(len(set(top)), len(top), name)
            for node in ast.walk(tree):
                if isinstance(node, ast.Name) and node.id not in bound:
                    self.assertIn(node.id, BUILTINS, (name, node.lineno))

    def test_imported_names_are_used_and_not_hidden(self):
        for name, tree in parsed().items():
            imported = {own.name for node in tree.body if isinstance(node, ast.ImportFrom) for own in node.names}
            classes = {node.name for node in tree.body if isinstance(node, ast.ClassDef)}
            used = {node.id for node in ast.walk(tree) if isinstance(node, ast.Name) and isinstance(node.ctx, ast.Load)}
            self.assertLessEqual(imported, used, name)
            hidden = {node.arg for node in ast.walk(tree) if isinstance(node, ast.arg)}
            hidden |= {node.id for node in ast.walk(tree) if isinstance(node, ast.Name) and isinstance(node.ctx, ast.Store)}
            self.assertFalse(hidden & (imported | classes), name)

    def test_forms(self):
        for name, tree in parsed().items():
            for node in ast.walk(tree):
                self.assertNotIsInstance(node, BANNED_NODES, (name, getattr(node, "lineno", 0)))
                if isinstance(node, (ast.FunctionDef, ast.ClassDef)):
                    self.assertEqual([], node.decorator_list)
                if isinstance(node, ast.Constant):
                    self.assertNotIsInstance(node.value, (float, complex))
                    self.assertNotIn("%", str(node.value))
                if isinstance(node, ast.Call) and isinstance(node.func, ast.Attribute):
                    self.assertIn(node.func.attr, METHODS, (name, node.lineno))
                if isinstance(node, ast.Compare) and any(isinstance(own, (ast.Is, ast.IsNot)) for own in node.ops):
                    self.assertTrue(all(isinstance(own, ast.Constant) for own in node.comparators), (name, node.lineno))
                if isinstance(node, ast.ExceptHandler):
                    self.assertIsNotNone(node.type)

    def test_stars_stand_before_names(self):
        for name, tree in parsed().items():
            for node in ast.walk(tree):
                if isinstance(node, ast.Starred):
                    self.assertIsInstance(node.value, ast.Name, (name, node.lineno))

    def test_loops_do_not_change_what_they_go_over(self):
        for name, tree in parsed().items():
            for loop in [node for node in ast.walk(tree) if isinstance(node, ast.For)]:
                over = {node.id for node in ast.walk(loop.iter) if isinstance(node, ast.Name)}
                for node in [own for row in loop.body for own in ast.walk(row)]:
                    if isinstance(node, ast.Call) and isinstance(node.func, ast.Attribute) and node.func.attr in CHANGING:
                        self.assertFalse(over & names_in(node.func.value), (name, node.lineno))
                    elif isinstance(node, (ast.Assign, ast.AugAssign)):
                        targets = node.targets if isinstance(node, ast.Assign) else [node.target]
                        self.assertFalse(any(over & names_in(own) for own in targets), (name, node.lineno))

    def test_every_function_is_told_in_words_or_begins_with_a_bar(self):
        for name, tree in parsed().items():
            for node in tree.body:
                if isinstance(node, ast.FunctionDef) and not node.name.startswith("_"):
                    self.assertIsNotNone(ast.get_docstring(node), (name, node.name))


if __name__ == "__main__":
    unittest.main()
