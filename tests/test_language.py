"""The rules of LANGUAGE.md that can be seen in the files of the package, by their numbers."""

import ast
import builtins
import io
import pathlib
import re
import tokenize
import unittest
import warnings

PACKAGE = pathlib.Path(__file__).resolve().parent.parent / "areawalks"
FILES = sorted(path for path in PACKAGE.rglob("*.py"))
LIBRARY = {
    "heapq": {"heappush", "heappop", "heapify", "heapreplace", "heappushpop"},
    "math": {"gcd", "lcm", "isqrt", "comb", "perm", "factorial"},
    "itertools": {"product", "combinations", "permutations"}}
BUILTINS = set(
    "len range enumerate zip min max sum abs sorted reversed int str bool bytes list tuple dict set frozenset "
    "isinstance ord repr any all divmod iter next map super property staticmethod classmethod Exception ValueError "
    "TypeError KeyError IndexError LookupError ZeroDivisionError ArithmeticError OverflowError RuntimeError "
    "NotImplementedError AttributeError StopIteration NotImplemented object".split())
PLAIN_METHODS = set(
    "append clear copy count endswith extend find get index insert isalnum isalpha isdigit islower isspace isupper "
    "items join keys ljust lower lstrip partition pop remove replace reverse rfind rjust rpartition rsplit rstrip "
    "setdefault split splitlines startswith strip update upper values zfill bit_length add discard".split())
METHODS = PLAIN_METHODS | set(
    "title capitalize swapcase casefold center expandtabs removeprefix removesuffix rindex isascii isdecimal isnumeric "
    "istitle isidentifier isprintable translate".split())
SPECIAL = set(
    "__init__ __eq__ __repr__ __str__ __len__ __enter__ __exit__ __call__ __iter__ __lt__ __le__ __gt__ __ge__ __ne__ "
    "__add__ __sub__ __mul__ __floordiv__ __mod__ __pow__ __and__ __or__ __xor__ __lshift__ __rshift__ __neg__ "
    "__pos__ __invert__ __abs__ __bool__ __contains__ __getitem__ __setitem__".split())
BARRED_NAMES = set(
    "register mro elements open input law version_info with_traceback add_note format format_map attrgetter breakpoint "
    "builtins compile copyright credits delattr dir eval exec exit gc getattr globals hasattr help id importlib "
    "license locals methodcaller os quit setattr type vars sys".split())
BARRED_WORDS = re.compile(
    r"\b(type|typing|typing_extensions|enum|Enum|IntEnum|StrEnum|Flag|IntFlag|Generic|Protocol|ABC|ABCMeta|namedtuple|"
    r"NamedTuple|TypedDict|TYPE_CHECKING|abstractmethod)\b|dataclass|overload|contextmanager")
STATEMENTS = (
    ast.Assign, ast.AugAssign, ast.AnnAssign, ast.If, ast.While, ast.For, ast.Return, ast.Break, ast.Continue, ast.Pass,
    ast.Raise, ast.Assert, ast.Delete, ast.Nonlocal, ast.Match, ast.With, ast.Try, ast.Expr, ast.FunctionDef,
    ast.ClassDef, ast.ImportFrom)
AT_ONCE = {"range", "zip", "enumerate", "reversed", "map"}
TAKERS = {"list", "tuple", "dict", "sorted", "sum", "any", "all", "enumerate", "zip", "min", "max", "len", "reversed"}


def trees():
    """The syntax tree of each file, by its path, with the parent of each node."""
    found = {}
    for path in FILES:
        tree = ast.parse(path.read_text(encoding="utf-8"))
        for node in ast.walk(tree):
            for child in ast.iter_child_nodes(node):
                child.parent = node
        found[path] = tree
    return found


TREES = trees()
OWN_ERRORS = {node.name for node in TREES[PACKAGE / "errors.py"].body if isinstance(node, ast.ClassDef)}


def module_of(path):
    parts = path.relative_to(PACKAGE.parent).with_suffix("").parts
    return ".".join(parts[:-1] if parts[-1] == "__init__" else parts)


def defined_names(tree):
    """The names that statements at module level bind, imports apart."""
    names = []
    for node in tree.body:
        if isinstance(node, (ast.FunctionDef, ast.ClassDef)):
            names.append(node.name)
        if isinstance(node, ast.Assign):
            names.extend(target.id for target in node.targets)
    return names


def imported_names(tree):
    return [alias.name for node in tree.body if isinstance(node, ast.ImportFrom) for alias in node.names]


def bound_names(tree):
    """Each name that is bound anywhere, with its line."""
    for node in ast.walk(tree):
        if isinstance(node, ast.Name) and isinstance(node.ctx, ast.Store):
            yield node.id, node.lineno
        if isinstance(node, ast.arg):
            yield node.arg, node.lineno
        if isinstance(node, (ast.FunctionDef, ast.ClassDef)) and not isinstance(node.parent, ast.ClassDef):
            yield node.name, node.lineno


def local_names(tree):
    """Each parameter and each name that a function binds, with its line."""
    for node in ast.walk(tree):
        if isinstance(node, ast.FunctionDef):
            for part in ast.walk(node):
                if isinstance(part, ast.Name) and isinstance(part.ctx, ast.Store):
                    yield part.id, part.lineno
                if isinstance(part, ast.arg):
                    yield part.arg, part.lineno


class LanguageTest(unittest.TestCase):
    def nodes(self, *kinds):
        for path, tree in TREES.items():
            for node in ast.walk(tree):
                if isinstance(node, kinds):
                    yield f"{path.name}:{getattr(node, 'lineno', 0)}", node

    def test_files(self):
        self.assertTrue(FILES)
        for path in PACKAGE.rglob("*"):
            if "__pycache__" not in path.parts:
                self.assertTrue(path.is_dir() or path.suffix == ".py", f"L1 {path}")
                self.assertRegex(path.stem, r"^([a-z][a-z0-9_]*|__init__|__main__)$", "L14")
                self.assertNotIn(path.stem, set(dir(builtins)) | BARRED_NAMES, "L14")
        self.assertTrue((PACKAGE / "__init__.py").exists(), "L14")

    def test_sizes_and_characters(self):
        for path in FILES:
            text = path.read_text(encoding="utf-8")
            lines = text.split("\n")
            self.assertLessEqual(len(text.splitlines()), 399, f"L10 {path}")
            for number, line in enumerate(lines, 1):
                self.assertLessEqual(len(line), 120, f"L10 {path}:{number}")
                self.assertTrue(all(" " <= letter <= "~" for letter in line), f"L14 {path}:{number}")
        for place, node in self.nodes(ast.FunctionDef):
            self.assertLessEqual(node.end_lineno - node.lineno + 1, 40, f"L10 {place}")

    def test_no_warnings(self):
        with warnings.catch_warnings():
            warnings.simplefilter("error")
            for path in FILES:
                compile(path.read_text(encoding="utf-8"), str(path), "exec")

    def test_imports(self):
        own = {module_of(path): tree for path, tree in TREES.items()}
        for place, node in self.nodes(ast.Import, ast.ImportFrom):
            self.assertIsInstance(node, ast.ImportFrom, f"L2 {place}")
            self.assertIsInstance(node.parent, ast.Module, f"L2 {place}")
            self.assertEqual(node.level, 0, f"L2 {place}")
            for alias in node.names:
                if node.module in LIBRARY:
                    self.assertIn(alias.name, LIBRARY[node.module], f"L2 {place}")
                    self.assertIsNone(alias.asname, f"L2 {place}")
                else:
                    self.assertIn(alias.name, defined_names(own[node.module]), f"L16 {place}")

    def test_no_two_files_import_each_other(self):
        needs = {
            module_of(path): {node.module for node in tree.body if isinstance(node, ast.ImportFrom)}
            for path, tree in TREES.items()}
        left = {name: {other for other in others if other in needs} for name, others in needs.items()}
        while left:
            free = [name for name, others in left.items() if not others & set(left)]
            self.assertTrue(free, f"L16 {sorted(left)}")
            for name in free:
                del left[name]

    def test_module_level(self):
        for path, tree in TREES.items():
            for node in tree.body:
                docstring = node is tree.body[0] and isinstance(node, ast.Expr)
                kinds = (ast.ImportFrom, ast.FunctionDef, ast.ClassDef, ast.Assign)
                self.assertTrue(docstring or isinstance(node, kinds), f"L3 {path}:{node.lineno}")
                if isinstance(node, ast.Assign):
                    self.assertEqual([target.__class__ for target in node.targets], [ast.Name], f"L3 {path}")
                    ast.literal_eval(node.value)
            names = defined_names(tree) + imported_names(tree)
            self.assertEqual(len(names), len(set(names)), f"L15 {path}")
            self.assertFalse(imported_names(tree) and path.stem == "__init__", f"L16 {path}")

    def test_imports_are_used(self):
        for path, tree in TREES.items():
            used = {node.id for node in ast.walk(tree) if isinstance(node, ast.Name)}
            self.assertEqual(set(imported_names(tree)) - used, set(), path)

    def test_statements(self):
        for place, node in self.nodes(ast.stmt):
            self.assertIsInstance(node, STATEMENTS, f"L6 {place}")

    def test_expressions(self):
        for place, node in self.nodes(ast.Await, ast.Div, ast.MatMult):
            self.fail(f"L7 {place} {node.__class__.__name__}")
        for place, node in self.nodes(ast.GeneratorExp):
            # Classes of the package have __eq__, so any, all, min, max, sum and sorted take lists.
            taker = node.parent.func
            self.assertIn(getattr(taker, "id", getattr(taker, "attr", "")), ("list", "tuple", "dict", "join"), place)
        for place, node in self.nodes(ast.Constant):
            self.assertNotIsInstance(node.value, (float, complex, bytes), f"L7 {place}")
        for place, node in self.nodes(ast.BinOp):
            if isinstance(node.op, ast.Pow):
                self.assertIsInstance(node.right, ast.Constant, f"L27 {place}")
        for place, node in self.nodes(ast.Compare):
            for operator, other in zip(node.ops, node.comparators):
                if isinstance(operator, (ast.Is, ast.IsNot)):
                    self.assertIn(getattr(other, "value", 0), (None, True, False), f"L20 {place}")

    def test_builtins(self):
        known = set(dir(builtins))
        for path, tree in TREES.items():
            for node in ast.walk(tree):
                if isinstance(node, ast.Name) and node.id in known:
                    self.assertIn(node.id, BUILTINS, f"L8 {path}:{node.lineno}")
            for name, line in bound_names(tree):
                self.assertNotIn(name, known | BARRED_NAMES, f"L15 {path}:{line}")
                self.assertTrue(name == "_" or re.fullmatch(r"_?[A-Za-z][A-Za-z0-9_]*", name), f"L12 {path}:{line}")

    def test_no_name_hides_another_one(self):
        for path, tree in TREES.items():
            above = set(defined_names(tree) + imported_names(tree))
            for name, line in local_names(tree):
                self.assertNotIn(name, above, f"L15 {path}:{line}")
        for place, node in self.nodes(ast.Name):
            self.assertFalse(node.id == "_" and isinstance(node.ctx, ast.Load), f"L12 {place}")

    def test_strings(self):
        for path in FILES:
            for token in tokenize.generate_tokens(io.StringIO(path.read_text(encoding="utf-8")).readline):
                place = f"{path}:{token.start[0]}"
                if token.type == tokenize.STRING:
                    self.assertNotIn("%", token.string, f"L27 {place}")
                    self.assertNotIn("\\", token.string, f"L27 {place}")
                if token.type == tokenize.NAME:
                    self.assertNotRegex(token.string, BARRED_WORDS, f"L17 {place}")
                    self.assertNotIn(token.string, ("async", "global", "__class__", "__name__"), f"L6 {place}")

    def test_classes(self):
        for place, node in self.nodes(ast.ClassDef):
            self.assertIsInstance(node.parent, ast.Module, f"L15 {place}")
            self.assertEqual(node.decorator_list, [], f"L5 {place}")
            methods = [part.name for part in node.body if isinstance(part, ast.FunctionDef)]
            self.assertEqual(len(methods), len(set(methods)), f"L18 {place}")
            for part in node.body:
                docstring = part is node.body[0] and isinstance(part, ast.Expr)
                self.assertTrue(docstring or isinstance(part, ast.FunctionDef), f"L5 {place}")
            for name in methods:
                self.assertTrue(name in SPECIAL or not name.startswith("__"), f"L5 {place}")

    def test_functions(self):
        for place, node in self.nodes(ast.FunctionDef):
            for decorator in node.decorator_list:
                self.assertEqual(decorator.id, "property", f"L4 {place}")
            for default in node.args.defaults + [part for part in node.args.kw_defaults if part is not None]:
                self.assertNotIsInstance(default, (ast.List, ast.Dict, ast.Call), f"L4 {place}")

    def test_methods_and_attributes(self):
        methods = {node.name for _, node in self.nodes(ast.FunctionDef) if isinstance(node.parent, ast.ClassDef)}
        native = {name for value in ("", 0, [], {}, (), set(), b"") for name in dir(value)}
        assigned = {
            node.attr for _, node in self.nodes(ast.Attribute) if isinstance(node.ctx, ast.Store)}
        self.assertFalse(assigned & native, "L26")
        # Methods may have the names of the plain methods that L25 lists first.
        self.assertFalse({name for name in methods if not name.startswith("__")} & native - PLAIN_METHODS, "L26")
        for place, node in self.nodes(ast.Attribute):
            if isinstance(node.parent, ast.Call) and node.parent.func is node:
                self.assertTrue(node.attr in METHODS or node.attr in methods, f"L25 {place}")
                self.assertNotEqual(node.attr, "sort", f"L25 {place}")
            else:
                self.assertIn(node.attr, assigned | {"length"}, f"L18 {place}")

    def test_what_is_iterated_at_once(self):
        for place, node in self.nodes(ast.Call):
            views = isinstance(node.func, ast.Attribute) and node.func.attr in ("items", "keys", "values")
            if not views and not (isinstance(node.func, ast.Name) and node.func.id in AT_ONCE):
                continue
            parent = node.parent
            looped = isinstance(parent, (ast.For, ast.comprehension)) and parent.iter is node
            taken = isinstance(parent, ast.Call) and getattr(parent.func, "id", "") in TAKERS
            self.assertTrue(looped or taken, f"L23 {place}")

    def test_reversed(self):
        # A class of the package has __getitem__, so not even tuples are reversed straight.
        for place, node in self.nodes(ast.Call):
            if getattr(node.func, "id", "") == "reversed":
                taker = getattr(getattr(node.args[0], "func", None), "id", "")
                self.assertIn(taker, ("list", "tuple", "sorted", "range"), f"L5 {place}")

    def test_classes_with_items(self):
        for place, node in self.nodes(ast.ClassDef):
            methods = [part.name for part in node.body if isinstance(part, ast.FunctionDef)]
            self.assertTrue("__getitem__" not in methods or "__iter__" in methods, f"L5 {place}")
        for path in FILES:
            self.assertNotRegex(path.read_text(encoding="utf-8"), r"\(type\)|Meta|metaclass=", f"L17 {path}")

    def test_finally(self):
        for place, node in self.nodes(ast.Try):
            for part in node.finalbody:
                self.assertIsInstance(part, ast.Assign, f"L6 {place}")
                for value in ast.walk(part):
                    plain = (ast.Assign, ast.Tuple, ast.Name, ast.Attribute, ast.expr_context)
                    self.assertIsInstance(value, plain, f"L6 {place}")
            for handler in node.handlers:
                self.assertIsInstance(handler.type, ast.Name, f"L19 {place}")
                self.assertIn(handler.type.id, OWN_ERRORS, f"L19 {place}")

    def test_stars(self):
        for place, node in self.nodes(ast.Call):
            for part in node.args:
                if isinstance(part, ast.Starred):
                    self.assertIsInstance(part.value, (ast.Name, ast.Attribute), f"L7 {place}")

    def test_errors(self):
        for place, node in self.nodes(ast.Raise):
            if node.exc is not None:
                self.assertIsInstance(node.exc, ast.Call, f"L19 {place}")
                self.assertIsInstance(node.exc.func, ast.Name, f"L19 {place}")


if __name__ == "__main__":
    unittest.main()
