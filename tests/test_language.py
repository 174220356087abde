"""The rules of LANGUAGE.md that can be read off the source, for every file of the package."""

import ast
import builtins
import re
import unittest
from pathlib import Path

FOLDER = Path(__file__).resolve().parent.parent / "treethaw"
FILES = sorted(FOLDER.glob("*.py"))
TREES = {path.stem: ast.parse(path.read_text(), str(path)) for path in FILES}

BUILTINS = set("""len range enumerate zip min max sum abs sorted reversed int str bool bytes list tuple dict set
    isinstance ord repr any all divmod iter next Exception ValueError TypeError KeyError IndexError LookupError
    ZeroDivisionError ArithmeticError OverflowError RuntimeError NotImplementedError StopIteration""".split())
METHODS = set("""append clear copy count endswith extend find get index insert isalnum isalpha isdigit islower isspace
    isupper items join keys ljust lower lstrip partition pop remove replace reverse rfind rjust rpartition rsplit
    rstrip setdefault split splitlines startswith strip update upper values zfill bit_length add discard
    __init__""".split())
WORDS = re.compile(r"\b(type|typing|typing_extensions|enum|Enum|IntEnum|StrEnum|Flag|IntFlag|Generic|Protocol|ABC"
                   r"|ABCMeta|namedtuple|NamedTuple|TypedDict|TYPE_CHECKING|abstractmethod)\b"
                   r"|dataclass|overload|contextmanager")
NOWHERE = set("register mro elements open input law version_info with_traceback add_note".split())
STATEMENTS = (ast.Expr, ast.ImportFrom, ast.FunctionDef, ast.ClassDef, ast.Assign)
BARRED = (ast.Global, ast.AsyncFunctionDef, ast.Await, ast.Import, ast.Div, ast.MatMult)
VIEWS = ("items", "keys", "values")
AT_ONCE = ("list", "tuple", "dict", "sorted", "sum", "any", "all", "enumerate", "zip", "min", "max")


def functions(tree):
    return [node for node in ast.walk(tree) if isinstance(node, ast.FunctionDef)]


def bound(node):
    """The names that a function binds: parameters, its lambdas' too, targets, loops, caught errors."""
    names = [at.arg for at in ast.walk(node) if isinstance(at, ast.arg)]
    names += [at.id for at in ast.walk(node) if isinstance(at, ast.Name) and isinstance(at.ctx, ast.Store)]
    names += [at.name for at in ast.walk(node) if isinstance(at, ast.ExceptHandler) and at.name]
    return names


def module_names(tree):
    names = []
    for node in tree.body:
        if isinstance(node, (ast.FunctionDef, ast.ClassDef)):
            names.append(node.name)
        elif isinstance(node, ast.Assign):
            names += [target.id for target in node.targets]
        elif isinstance(node, ast.ImportFrom):
            names += [alias.asname or alias.name for alias in node.names]
    return names


def imports(tree):
    return [node for node in tree.body if isinstance(node, ast.ImportFrom)]


class Language(unittest.TestCase):
    def each(self, kinds):
        for name, tree in TREES.items():
            for node in ast.walk(tree):
                if isinstance(node, kinds):
                    with self.subTest(file=name, line=getattr(node, "lineno", 0)):
                        yield name, node

    def test_folder(self):
        found = [path for path in FOLDER.iterdir() if path.name != "__pycache__"]
        self.assertEqual(sorted(found), FILES)
        self.assertIn(FOLDER / "__init__.py", FILES)
        for path in FILES:
            self.assertRegex(path.name, r"^([a-z][a-z0-9_]*|__init__)\.py$")

    def test_characters_and_sizes(self):
        for path in FILES:
            text = path.read_text()
            with self.subTest(path.name):
                self.assertRegex(text, r"\A[ -~\n]*\Z")
                self.assertIsNone(WORDS.search(text))
                self.assertLessEqual(len(text.splitlines()), 399)
                self.assertLessEqual(max(map(len, text.splitlines())), 120)
                for node in functions(TREES[path.stem]):
                    self.assertLessEqual(node.end_lineno - node.lineno + 1, 40, node.name)

    def test_imports(self):
        for name, tree in TREES.items():
            for node in imports(tree):
                with self.subTest(file=name, line=node.lineno):
                    self.assertRegex(node.module, r"^treethaw\.[a-z]+$")
                    there = TREES[node.module.partition(".")[2]]
                    own = [at for at in module_names(there)
                           if at not in [alias.name for other in imports(there) for alias in other.names]]
                    for alias in node.names:
                        self.assertIn(alias.name, own)

    def test_imports_are_used(self):
        for name, tree in TREES.items():
            used = {node.id for node in ast.walk(tree) if isinstance(node, ast.Name)}
            with self.subTest(name):
                self.assertEqual({alias.name for node in imports(tree) for alias in node.names} - used, set())

    def test_no_circles(self):
        above = {name: {node.module.partition(".")[2] for node in imports(tree)} for name, tree in TREES.items()}
        while above:
            free = [name for name in above if not above[name] & set(above)]
            self.assertTrue(free, above)
            above = {name: above[name] for name in above if name not in free}

    def test_module_level(self):
        for name, tree in TREES.items():
            with self.subTest(name):
                self.assertIsNotNone(ast.get_docstring(tree))
                self.assertEqual([node for node in tree.body if not isinstance(node, STATEMENTS)], [])
                names = module_names(tree)
                self.assertEqual(len(names), len(set(names)))

    def test_barred_statements(self):
        for _, node in self.each(BARRED):
            self.fail(ast.dump(node))
        for _, node in self.each((ast.FunctionDef, ast.ClassDef)):
            self.assertEqual(node.decorator_list, [])

    def test_names(self):
        for _, node in self.each((ast.Name, ast.arg, ast.FunctionDef, ast.ClassDef, ast.Attribute, ast.keyword)):
            name = next(getattr(node, at) for at in ("id", "arg", "name", "attr") if hasattr(node, at))
            self.assertNotIn(name, NOWHERE)
            if name != "__init__":
                self.assertRegex(name, r"^[A-Za-z][A-Za-z0-9_]*$")

    def test_builtins(self):
        for name, tree in TREES.items():
            for node in functions(tree):
                known = set(module_names(tree)) | set(bound(node)) | BUILTINS
                for at in ast.walk(node):
                    if isinstance(at, ast.Name):
                        with self.subTest(file=name, line=at.lineno):
                            self.assertIn(at.id, known)

    def test_no_name_has_two_meanings(self):
        taken = set(dir(builtins))
        for name, tree in TREES.items():
            outer = [alias.name for node in imports(tree) for alias in node.names]
            outer += [node.name for node in tree.body if isinstance(node, ast.ClassDef)]
            self.assertEqual(taken & set(module_names(tree)), set())
            for node in functions(tree):
                with self.subTest(file=name, function=node.name):
                    self.assertEqual((taken | set(outer)) & set(bound(node)), set())

    def test_methods_and_attributes(self):
        classes = [node for _, node in self.each(ast.ClassDef)]
        own = {node.name for at in classes for node in at.body if isinstance(node, ast.FunctionDef)} - {"__init__"}
        stored = {node.attr for _, node in self.each(ast.Attribute) if isinstance(node.ctx, ast.Store)}
        called = {node.func.attr for _, node in self.each(ast.Call) if isinstance(node.func, ast.Attribute)}
        read = {node.attr for _, node in self.each(ast.Attribute) if isinstance(node.ctx, ast.Load)}
        self.assertEqual(own & stored, set())
        self.assertEqual(called - own - METHODS, set())
        self.assertEqual(read - called - stored, set())

    def test_sets_stand_where_they_may(self):
        for name, tree in TREES.items():
            parents = {child: node for node in ast.walk(tree) for child in ast.iter_child_nodes(node)}
            for node in ast.walk(tree):
                is_set = isinstance(node, ast.Call) and getattr(node.func, "id", None) == "set"
                if is_set or isinstance(node, (ast.Set, ast.SetComp)):
                    with self.subTest(file=name, line=node.lineno):
                        self.assertIsInstance(parents[node], ast.Call)
                        self.assertIn(parents[node].func.id, ("sorted", "len"))
                        self.assertEqual(parents[node].keywords, [])

    def test_lambdas(self):
        for name, tree in TREES.items():
            found = [(node.lineno, tuple(arg.arg for arg in node.args.args)) for node in ast.walk(tree)
                     if isinstance(node, ast.Lambda)]
            with self.subTest(name):
                self.assertEqual(len(found), len(set(found)))

    def test_no_generators(self):
        for _, node in self.each((ast.GeneratorExp, ast.Yield, ast.YieldFrom)):
            self.fail(ast.dump(node))

    def test_is(self):
        for _, node in self.each(ast.Compare):
            for sign, right in zip(node.ops, node.comparators):
                if isinstance(sign, (ast.Is, ast.IsNot)):
                    self.assertIn(getattr(right, "value", 0), (None, True, False))

    def test_constants(self):
        for _, node in self.each(ast.Constant):
            self.assertNotIsInstance(node.value, (float, complex))
            if isinstance(node.value, str):
                self.assertNotIn("%", node.value)
                self.assertNotRegex(node.value, r"^__|\._+$")

    def test_views_are_iterated_at_once(self):
        parents = {}
        for _, node in self.each(ast.AST):
            for child in ast.iter_child_nodes(node):
                parents[child] = node
        for _, node in self.each(ast.Call):
            if isinstance(node.func, ast.Attribute) and node.func.attr in VIEWS:
                above = parents[node]
                if isinstance(above, ast.Call):
                    self.assertIn(getattr(above.func, "id", None), AT_ONCE)
                else:
                    self.assertIsInstance(above, (ast.For, ast.comprehension))

    def test_attributes_are_assigned_through_a_name(self):
        for _, node in self.each(ast.Attribute):
            if isinstance(node.ctx, ast.Store):
                self.assertIsInstance(node.value, ast.Name)

    def test_only_own_errors_are_caught(self):
        own = {node.name for node in TREES["errors"].body if isinstance(node, ast.ClassDef)}
        for _, node in self.each(ast.ExceptHandler):
            names = node.type.elts if isinstance(node.type, ast.Tuple) else [node.type]
            self.assertLessEqual({name.id for name in names}, own)

    def test_stars_in_calls_stand_before_names(self):
        for _, node in self.each(ast.Call):
            for argument in node.args:
                if isinstance(argument, ast.Starred):
                    self.assertIsInstance(argument.value, ast.Name)

    def test_raise_makes_its_error_on_the_spot(self):
        for _, node in self.each(ast.Raise):
            self.assertTrue(node.exc is None or isinstance(node.exc.func, ast.Name))


if __name__ == "__main__":
    unittest.main()
