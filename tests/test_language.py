"""The plain rules of the language of the package that can be told from its files."""

import ast
import builtins
import pathlib
import unittest

LIBRARY = {"math": ("gcd", "lcm", "isqrt", "comb"), "itertools": ("product", "combinations", "permutations"),
           "heapq": ("heappush", "heappop")}
FOLDER = pathlib.Path(__file__).resolve().parent.parent / "notinvain"
FILES = sorted(FOLDER.glob("**/*.py"))
BUILTINS = ("len range enumerate zip min max sum abs sorted reversed int str bool bytes list tuple dict set frozenset "
            "isinstance ord repr any all divmod Exception ValueError TypeError KeyError IndexError LookupError").split()
METHODS = ("append clear copy count endswith extend find get index insert isalnum isalpha isdigit islower isspace "
           "isupper items join keys ljust lower lstrip partition pop remove replace reverse rfind rjust rpartition "
           "rsplit rstrip setdefault split splitlines startswith strip update upper values zfill add bit_length").split()
BARRED_NODES = (ast.Global, ast.Nonlocal, ast.AsyncFunctionDef, ast.Await, ast.Lambda, ast.Yield, ast.YieldFrom,
                ast.With, ast.Match, ast.Starred, ast.Div, ast.Import, ast.AnnAssign, ast.NamedExpr)
BARRED_NAMES = ("open input register law elements mro id dir help exit vars type hash next iter map filter format "
                "license compile eval exec print super object").split()


def trees():
    return [(file, ast.parse(file.read_text())) for file in FILES]


def methods_in(tree):
    """The names of the methods of the classes of tree."""
    return [part.name for node in tree.body if isinstance(node, ast.ClassDef) for part in node.body
            if isinstance(part, ast.FunctionDef)]


def bound_names(node):
    """All names that node binds, within functions too."""
    for own in ast.walk(node):
        if isinstance(own, (ast.FunctionDef, ast.ClassDef)):
            yield own.name
        elif isinstance(own, ast.arg):
            yield own.arg
        elif isinstance(own, ast.Name) and isinstance(own.ctx, ast.Store):
            yield own.id
        elif isinstance(own, ast.alias):
            yield own.asname or own.name


def top_names(tree):
    """The names that are bound at module level, each as often as it is."""
    for node in tree.body:
        if isinstance(node, (ast.FunctionDef, ast.ClassDef)):
            yield node.name
        elif isinstance(node, ast.ImportFrom):
            yield from (name.name for name in node.names)
        elif isinstance(node, ast.Assign):
            yield node.targets[0].id


class Language(unittest.TestCase):

    def test_folder(self):
        own = [file for file in FOLDER.rglob("*") if file.is_file() and "__pycache__" not in file.parts]
        self.assertEqual(sorted(own), FILES)
        self.assertIn(FOLDER / "__init__.py", FILES)

    def test_characters_and_sizes(self):
        for file in FILES:
            text = file.read_text()
            self.assertTrue(all(sign == "\n" or " " <= sign <= "~" for sign in text), file)
            lines = text.split("\n")
            self.assertLess(len(lines), 400, file)
            self.assertTrue(all(len(line) <= 120 for line in lines), file)
        for file, tree in trees():
            for node in ast.walk(tree):
                if isinstance(node, ast.FunctionDef):
                    self.assertLessEqual(node.end_lineno - node.lineno + 1, 40, (file, node.name))
                if isinstance(node, ast.Constant) and isinstance(node.value, str):
                    self.assertNotIn("%", node.value, file)

    def test_statements(self):
        for file, tree in trees():
            for node in ast.walk(tree):
                self.assertNotIsInstance(node, BARRED_NODES, (file, getattr(node, "lineno", 0)))
                if isinstance(node, (ast.FunctionDef, ast.ClassDef)):
                    self.assertEqual(node.decorator_list, [], file)
                if isinstance(node, ast.Constant):
                    self.assertNotIsInstance(node.value, (float, complex), file)
            for node in tree.body:
                self.assertIsInstance(node, (ast.FunctionDef, ast.ClassDef, ast.ImportFrom, ast.Assign, ast.Expr), file)

    def test_imports(self):
        uses = {}
        for file, tree in trees():
            own = [node for node in ast.walk(tree) if isinstance(node, ast.ImportFrom)]
            uses["notinvain." + file.stem] = [node.module for node in own]
            for node in own:
                self.assertIn(node, tree.body)
                self.assertEqual(node.level, 0)
                if node.module in LIBRARY:
                    self.assertTrue(all(name.asname is None and name.name in LIBRARY[node.module] for name in node.names))
                    continue
                home = FOLDER / (node.module.partition(".")[2] + ".py")
                names = list(top_names(ast.parse(home.read_text())))
                self.assertTrue(all(name.asname is None and name.name in names for name in node.names), file)
        while uses:
            free = [name for name in uses if not any(other in uses for other in uses[name])]
            self.assertTrue(free, uses)
            for name in free:
                del uses[name]

    def test_names(self):
        for file, tree in trees():
            top = list(top_names(tree))
            self.assertEqual(len(top), len(set(top)), file)
            # A doctest in the same run leaves "_" there.
            barred = (set(BARRED_NAMES) | set(dir(builtins))) - {"_"}
            self.assertFalse(barred & set(bound_names(tree)) - {"__init__"}, file)
            brought = {name.name for node in tree.body if isinstance(node, ast.ImportFrom) for name in node.names}
            brought |= {node.name for node in tree.body if isinstance(node, ast.ClassDef)}
            for node in ast.walk(tree):
                if isinstance(node, ast.FunctionDef):
                    self.assertFalse(brought & set(bound_names(node)), (file, node.name))
            used = {node.id for node in ast.walk(tree) if isinstance(node, ast.Name)}
            self.assertFalse(brought - used - {node.name for node in tree.body if isinstance(node, ast.ClassDef)}, file)
            outside = {name for name in used - {"_"} if hasattr(builtins, name)}
            self.assertFalse(outside - set(BUILTINS), file)

    def test_functions_do_not_hide_functions(self):
        for file, tree in trees():
            top = set(top_names(tree))
            for node in ast.walk(tree):
                if isinstance(node, ast.FunctionDef):
                    inner = [name for name in bound_names(node) if name != node.name]
                    self.assertFalse(top & set(inner), (file, node.name))

    def test_methods(self):
        own = {name for _, tree in trees() for name in methods_in(tree)}
        self.assertFalse(own & set(METHODS))
        for file, tree in trees():
            for node in ast.walk(tree):
                if isinstance(node, ast.Call) and isinstance(node.func, ast.Attribute):
                    self.assertIn(node.func.attr, set(METHODS) | own, (file, node.lineno))
                if isinstance(node, ast.ClassDef):
                    self.assertTrue(all(isinstance(part, (ast.FunctionDef, ast.Expr)) for part in node.body), file)
                    for part in node.body[1:]:
                        self.assertTrue(part.name == "__init__" or ast.get_docstring(part), (file, part.name))

    def test_sets(self):
        """A set stands only within sorted(..) or len(..)."""
        for file, tree in trees():
            inner = set()
            for node in ast.walk(tree):
                self.assertNotIsInstance(node, (ast.Set, ast.SetComp), (file, getattr(node, "lineno", 0)))
                if isinstance(node, ast.Call) and isinstance(node.func, ast.Name) and node.func.id in ("sorted", "len"):
                    inner |= {id(own) for own in node.args}
            for node in ast.walk(tree):
                if isinstance(node, ast.Call) and isinstance(node.func, ast.Name) and node.func.id == "set":
                    self.assertIn(id(node), inner, (file, node.lineno))

    def test_documented(self):
        for file, tree in trees():
            self.assertTrue(ast.get_docstring(tree), file)
            for node in tree.body:
                if isinstance(node, (ast.FunctionDef, ast.ClassDef)):
                    self.assertTrue(ast.get_docstring(node), (file, node.name))


if __name__ == "__main__":
    unittest.main()
