"""The form of the package's files: the rules of LANGUAGE.md that a test can see."""

import ast
import builtins
import pathlib
import unittest

PACKAGE = pathlib.Path(__file__).resolve().parent.parent / "leasttiles"

BUILTINS = set(
    """len range enumerate zip min max sum abs sorted reversed int str bool list tuple dict set isinstance ord repr
    any all divmod type iter next Exception ValueError TypeError KeyError IndexError LookupError ZeroDivisionError
    ArithmeticError OverflowError RuntimeError NotImplementedError""".split()
)
METHODS = set(
    """append clear copy count endswith extend find get index insert isalnum isalpha isdigit islower isspace isupper
    items join keys ljust lower lstrip partition pop remove replace reverse rfind rjust rpartition rsplit rstrip
    setdefault split splitlines startswith strip update upper values zfill bit_length add discard sort""".split()
)
LIBRARY = {"heapq": {"heappush", "heappop", "heapify", "heapreplace", "heappushpop"}}
NEVER = set("register mro elements open input law version_info with_traceback add_note".split())
NOT_AS_NAMES = set(
    """attrgetter breakpoint builtins compile copyright credits delattr dir eval exec exit gc getattr globals hasattr
    help id importlib license locals methodcaller os quit setattr super vars sys""".split()
)
NOT_AS_ATTRIBUTES = set(
    """items keys values pop update append clear extend insert remove reverse setdefault sort args encode decode hex
    fromhex format""".split()
)
STATEMENTS = (
    ast.Assign, ast.AugAssign, ast.If, ast.While, ast.For, ast.Return, ast.Break, ast.Continue, ast.Pass, ast.Raise,
    ast.Assert, ast.Delete, ast.Expr, ast.Try, ast.FunctionDef, ast.ClassDef, ast.ImportFrom,
)
FUNCTIONS = (ast.FunctionDef, ast.Lambda)


def files():
    return sorted(PACKAGE.glob("*.py"))


def tree_of(path):
    return ast.parse(path.read_text(encoding="utf-8"))


def docstrings(tree):
    """The nodes of the docstrings of a tree."""
    found = set()
    for node in ast.walk(tree):
        if isinstance(node, (ast.Module, ast.ClassDef, ast.FunctionDef)) and node.body:
            first = node.body[0]
            if isinstance(first, ast.Expr) and isinstance(first.value, ast.Constant):
                found.add(first.value)
    return found


def bound_names(tree):
    """The names that a tree binds anywhere, with their lines."""
    for node in ast.walk(tree):
        if isinstance(node, (ast.FunctionDef, ast.ClassDef)):
            yield node.name, node.lineno
        elif isinstance(node, ast.arg):
            yield node.arg, node.lineno
        elif isinstance(node, ast.Name) and isinstance(node.ctx, ast.Store):
            yield node.id, node.lineno
        elif isinstance(node, ast.ExceptHandler) and node.name:
            yield node.name, node.lineno


class Rules(unittest.TestCase):
    def each(self):
        for path in files():
            yield path, tree_of(path)

    def test_folder(self):
        self.assertTrue((PACKAGE / "__init__.py").is_file())
        for path in PACKAGE.iterdir():
            if path.name != "__pycache__":
                self.assertRegex(path.name, r"^[a-z_0-9]+\.py$")
                self.assertTrue(path.stem == "__init__" or not hasattr(builtins, path.stem))

    def test_sizes_and_characters(self):
        for path in files():
            text = path.read_text(encoding="utf-8")
            self.assertTrue(all(sign == "\n" or " " <= sign <= "~" for sign in text), path.name)
            self.assertLessEqual(len(text.splitlines()), 399, path.name)
            for number, line in enumerate(text.splitlines(), start=1):
                self.assertLessEqual(len(line), 120, (path.name, number))
            for node in ast.walk(tree_of(path)):
                if isinstance(node, ast.FunctionDef):
                    self.assertLessEqual(node.end_lineno - node.lineno + 1, 40, (path.name, node.name))

    def test_imports(self):
        for path, tree in self.each():
            for node in ast.walk(tree):
                self.assertNotIsInstance(node, ast.Import)
                if isinstance(node, ast.ImportFrom):
                    self.assertIn(node, tree.body)
                    self.assertEqual(node.level, 0)
                    folder, _, name = node.module.partition(".")
                    if folder in LIBRARY:
                        self.assertLessEqual({part.name for part in node.names}, LIBRARY[folder])
                        self.assertEqual({part.asname for part in node.names}, {None})
                        continue
                    self.assertEqual(folder, "leasttiles", path.name)
                    source = tree_of(PACKAGE / f"{name}.py")
                    own = {part.name for part in source.body if isinstance(part, (ast.FunctionDef, ast.ClassDef))}
                    own |= {part.targets[0].id for part in source.body if isinstance(part, ast.Assign)}
                    for part in node.names:
                        self.assertIn(part.name, own, path.name)
                        self.assertIsNone(part.asname)

    def test_no_circle_of_imports(self):
        below = {}
        for path, tree in self.each():
            modules = [node.module for node in tree.body if isinstance(node, ast.ImportFrom)
                       and node.module not in LIBRARY]
            below[path.stem] = [module.partition(".")[2] for module in modules]
        done = []
        while len(done) < len(below):
            free = [name for name in below if name not in done and all(part in done for part in below[name])]
            self.assertTrue(free, sorted(set(below) - set(done)))
            done.extend(free)

    def test_module_level(self):
        for path, tree in self.each():
            names = []
            for node in tree.body:
                if isinstance(node, ast.Expr):
                    self.assertIn(node.value, docstrings(tree))
                elif isinstance(node, ast.Assign):
                    self.assertEqual(len(node.targets), 1)
                    self.assertIsInstance(node.targets[0], ast.Name)
                    names.append(node.targets[0].id)
                elif isinstance(node, ast.ImportFrom):
                    names.extend(part.name for part in node.names)
                else:
                    self.assertIsInstance(node, (ast.FunctionDef, ast.ClassDef), path.name)
                    names.append(node.name)
            self.assertEqual(len(names), len(set(names)), path.name)

    def test_statements(self):
        for path, tree in self.each():
            for node in ast.walk(tree):
                if isinstance(node, ast.stmt):
                    self.assertIsInstance(node, STATEMENTS, (path.name, node.lineno))
                if isinstance(node, (ast.FunctionDef, ast.ClassDef)):
                    self.assertEqual(node.decorator_list, [], path.name)

    def test_names(self):
        for path, tree in self.each():
            kept = {part.name for node in tree.body if isinstance(node, ast.ImportFrom) for part in node.names}
            kept |= {node.name for node in tree.body if isinstance(node, ast.ClassDef)}
            top_level = {node.name for node in tree.body if isinstance(node, ast.ClassDef)}
            for name, line in bound_names(tree):
                place = (path.name, line, name)
                self.assertFalse(name in kept and name not in top_level, place)
                self.assertNotIn(name, NEVER | NOT_AS_NAMES, place)
                if not name.startswith("__"):
                    self.assertRegex(name, r"^_?[A-Za-z][A-Za-z0-9_]*$|^_$", place)
                    self.assertFalse(hasattr(builtins, name), place)
            for node in ast.walk(tree):
                if isinstance(node, ast.Attribute):
                    self.assertNotIn(node.attr, NEVER, path.name)
                    if isinstance(node.ctx, ast.Store):
                        self.assertNotIn(node.attr, NOT_AS_ATTRIBUTES, path.name)
                if isinstance(node, ast.Name) and isinstance(node.ctx, ast.Load):
                    self.assertNotEqual(node.id, "_", path.name)

    def test_builtins(self):
        for path, tree in self.each():
            for node in ast.walk(tree):
                if isinstance(node, ast.Name) and hasattr(builtins, node.id):
                    self.assertIn(node.id, BUILTINS, (path.name, node.lineno))

    def test_methods(self):
        own = set()
        for _, tree in self.each():
            for node in ast.walk(tree):
                if isinstance(node, ast.ClassDef):
                    own |= {part.name for part in node.body if isinstance(part, ast.FunctionDef)}
        for path, tree in self.each():
            for node in ast.walk(tree):
                if isinstance(node, ast.Call) and isinstance(node.func, ast.Attribute):
                    self.assertIn(node.func.attr, own | METHODS, (path.name, node.lineno))

    def test_expressions(self):
        for path, tree in self.each():
            notes = docstrings(tree)
            for node in ast.walk(tree):
                place = (path.name, getattr(node, "lineno", 0))
                self.assertNotIsInstance(node, (ast.Div, ast.Await, ast.NamedExpr), place)
                if isinstance(node, ast.Constant):
                    self.assertNotIsInstance(node.value, (float, complex), place)
                    if isinstance(node.value, str) and node not in notes:
                        self.assertNotIn("%", node.value, place)
                        self.assertNotIn("type", node.value.split(), place)
                if isinstance(node, ast.BinOp) and isinstance(node.op, ast.Pow):
                    self.assertIsInstance(node.right, ast.Constant, place)
                if isinstance(node, ast.Compare) and any(isinstance(op, (ast.Is, ast.IsNot)) for op in node.ops):
                    self.check_is(node, place)

    def check_is(self, node, place):
        """is stands beside None, True or False, or asks what class a value has."""
        left, right = node.left, node.comparators[0]
        if isinstance(right, ast.Constant):
            self.assertIn(right.value, (None, True, False), place)
        else:
            self.assertIsInstance(left, ast.Call, place)
            self.assertEqual(left.func.id, "type", place)
            self.assertIn(right.id, ("int", "str", "tuple", "list", "bool", "dict"), place)

    def test_no_name_is_a_method_and_an_attribute(self):
        methods, attributes = set(), set()
        for _, tree in self.each():
            for node in ast.walk(tree):
                if isinstance(node, ast.ClassDef):
                    methods |= {part.name for part in node.body if isinstance(part, ast.FunctionDef)}
                if isinstance(node, ast.Attribute) and isinstance(node.ctx, ast.Store):
                    attributes.add(node.attr)
        self.assertEqual(methods & attributes, set())

    def test_generators_have_names_of_their_own(self):
        generators, others = [], []
        for _, tree in self.each():
            for node in ast.walk(tree):
                if isinstance(node, ast.FunctionDef):
                    yields = any(isinstance(part, (ast.Yield, ast.YieldFrom)) for part in ast.walk(node))
                    (generators if yields else others).append(node.name)
        self.assertEqual(set(generators) & set(others), set())
        self.assertEqual(len(generators), len(set(generators)))

    def test_iterators_are_used_at_once(self):
        for path, tree in self.each():
            for node in ast.walk(tree):
                if isinstance(node, ast.Assign) and isinstance(node.value, ast.Call):
                    name = getattr(node.value.func, "id", getattr(node.value.func, "attr", ""))
                    wrong = ("zip", "enumerate", "reversed", "range", "items", "keys", "values", "iter")
                    self.assertNotIn(name, wrong, (path.name, node.lineno))
                self.assertNotIsInstance(node, (ast.Set, ast.SetComp), path.name)
                if isinstance(node, ast.GeneratorExp):
                    self.assertIn(node, [part for part in ast.walk(tree) if isinstance(part, ast.Call)
                                         for part in part.args])


if __name__ == "__main__":
    unittest.main()
