"""The rules of the language, as far as they can be read off the package's files."""

import ast
import builtins
import unittest
from pathlib import Path

PACKAGE = Path(__file__).resolve().parent.parent / "beatlamps"
FILES = sorted(path for path in PACKAGE.rglob("*") if path.is_file() and "__pycache__" not in path.parts)
LIBRARY = {"math": {"gcd", "lcm", "isqrt", "comb", "perm", "factorial"},
           "heapq": {"heappush", "heappop", "heapify", "heapreplace", "heappushpop"},
           "itertools": {"product", "combinations", "permutations"}}
BUILTINS = set("""len range enumerate zip min max sum abs sorted reversed int str bool bytes list tuple dict set frozenset
isinstance ord repr any all divmod Exception ValueError TypeError KeyError IndexError LookupError ZeroDivisionError
ArithmeticError OverflowError RuntimeError NotImplementedError AttributeError StopIteration NotImplemented iter next
map""".split())
METHODS = set("""append clear copy count endswith extend find get index insert isalnum isalpha isdigit islower isspace
isupper items join keys ljust lower lstrip partition pop remove replace reverse rfind rjust rpartition rsplit rstrip
setdefault split splitlines startswith strip update upper values zfill bit_length add discard title capitalize swapcase
casefold removeprefix removesuffix rindex isascii isdecimal isnumeric isidentifier isprintable""".split())
OWN_METHODS = set("""beat back press cross change turn lamp undo redo trial keep take_over do_deed""".split())
SPECIAL = set("__init__ __len__ __contains__ __eq__ __enter__ __exit__".split())
# Examples that are run leave `_` among Python's own names.
PYTHONS_OWN = set(dir(builtins)) - {"_"}
BARRED_NAMES = set("""register mro elements open input law version_info with_traceback add_note attrgetter breakpoint
builtins compile copyright credits delattr dir eval exec exit gc getattr globals hasattr help id importlib license
locals methodcaller os quit setattr super type vars sys""".split())
BARRED_WORDS = set("""type typing typing_extensions enum Enum IntEnum StrEnum Flag IntFlag Generic Protocol ABC ABCMeta
namedtuple NamedTuple TypedDict TYPE_CHECKING abstractmethod dataclass overload contextmanager""".split())
BARRED_STARTS = ("_wall", "_pe_", "_dcw_", "_enum_", "_cm_", "_twin_re_", "_lay_", "_law_", "_stub_", "_sre", "__")
BARRED_NODES = (ast.Global, ast.AsyncFunctionDef, ast.AsyncFor, ast.AsyncWith, ast.Await, ast.GeneratorExp, ast.Div,
                ast.MatMult, ast.AnnAssign, ast.Set, ast.SetComp, ast.Yield, ast.YieldFrom, ast.NamedExpr)
PLAIN_NODES = (ast.Constant, ast.Tuple, ast.List, ast.Dict, ast.BinOp, ast.UnaryOp, ast.operator, ast.unaryop, ast.Load)


def trees():
    return [(path, ast.parse(path.read_text())) for path in FILES]


def functions(tree):
    return [node for node in ast.walk(tree) if isinstance(node, (ast.FunctionDef, ast.Lambda))]


def bound(tree):
    """The names that the module level binds."""
    for node in tree.body:
        if isinstance(node, ast.ImportFrom):
            yield from [alias.name for alias in node.names]
        elif isinstance(node, (ast.FunctionDef, ast.ClassDef)):
            yield node.name
        elif isinstance(node, ast.Assign):
            yield from [target.id for target in node.targets]


def locals_of(tree):
    for node in functions(tree):
        yield from [argument.arg for argument in node.args.args + node.args.kwonlyargs]
        yield from [name.id for name in ast.walk(node) if isinstance(name, ast.Name) and isinstance(name.ctx, ast.Store)]


class Language(unittest.TestCase):
    def test_files(self):
        self.assertIn(PACKAGE / "__init__.py", FILES)
        self.assertLessEqual(len(FILES), 100)
        for path in FILES:
            self.assertRegex(path.name, r"^[a-z0-9_]+\.py$")
            self.assertNotIn(path.stem, PYTHONS_OWN | BARRED_NAMES | BARRED_WORDS | {"test", "tests", "site"})
            text = path.read_text()
            self.assertTrue(all(sign == "\n" or " " <= sign <= "~" for sign in text), path)
            self.assertLessEqual(len(text.split("\n")), 399)
            self.assertLessEqual(max(map(len, text.split("\n"))), 120, path)
            for word in ("_wall", "_WallAttr"):
                self.assertNotIn(word, text, path)

    def test_functions_are_short(self):
        for path, tree in trees():
            for node in ast.walk(tree):
                if isinstance(node, ast.FunctionDef):
                    self.assertLessEqual(node.end_lineno - node.lineno + 1, 40, (path, node.name))
                    self.assertEqual(node.decorator_list, [])
                    self.assertTrue(ast.get_docstring(node) or node.name in SPECIAL, node.name)

    def test_imports(self):
        for path, tree in trees():
            for node in ast.walk(tree):
                self.assertNotIsInstance(node, ast.Import)
                if not isinstance(node, ast.ImportFrom):
                    continue
                self.assertIn(node, tree.body)
                self.assertTrue(all(alias.asname is None for alias in node.names))
                names = {alias.name for alias in node.names}
                if node.module in LIBRARY:
                    self.assertLessEqual(names, LIBRARY[node.module])
                    continue
                package, file = node.module.split(".")
                self.assertEqual((package, node.level), ("beatlamps", 0))
                there = ast.parse((PACKAGE / f"{file}.py").read_text())
                own = [name for thing in there.body if not isinstance(thing, ast.ImportFrom)
                       for name in bound(ast.Module([thing], []))]
                self.assertLessEqual(names, set(own), path)

    def test_imports_go_one_way_and_are_used(self):
        goes = {}
        for path, tree in trees():
            goes[path.stem] = {node.module.split(".")[1] for node in tree.body
                               if isinstance(node, ast.ImportFrom) and "." in node.module}
            used = {node.id for node in ast.walk(tree) if isinstance(node, ast.Name)}
            for node in tree.body:
                if isinstance(node, ast.ImportFrom):
                    self.assertLessEqual({alias.name for alias in node.names}, used, path)
        while goes:
            ends = [name for name, further in goes.items() if not further & set(goes)]
            self.assertNotEqual(ends, [])
            for name in ends:
                del goes[name]

    def test_module_level(self):
        for path, tree in trees():
            for at, node in enumerate(tree.body):
                if isinstance(node, ast.Expr):
                    self.assertTrue(at == 0 and isinstance(node.value, ast.Constant))
                    continue
                self.assertIsInstance(node, (ast.ImportFrom, ast.FunctionDef, ast.ClassDef, ast.Assign))
                if isinstance(node, ast.Assign):
                    self.assertEqual(len(node.targets), 1)
                    self.assertTrue(all(isinstance(part, PLAIN_NODES) for part in ast.walk(node.value)), path)
            self.assertIsNotNone(ast.get_docstring(tree))
            names = list(bound(tree))
            self.assertEqual(len(names), len(set(names)), path)

    def test_names(self):
        for path, tree in trees():
            names = list(bound(tree)) + list(locals_of(tree))
            for name in names:
                self.assertNotIn(name, PYTHONS_OWN | BARRED_NAMES | BARRED_WORDS, path)
                self.assertFalse(name.startswith(BARRED_STARTS), (path, name))
            classes = {node.name for node in tree.body if isinstance(node, ast.ClassDef)}
            imports = {alias.name for node in tree.body if isinstance(node, ast.ImportFrom) for alias in node.names}
            self.assertEqual(set(locals_of(tree)) & (classes | imports | set(bound(tree))), set(), path)
            for node in ast.walk(tree):
                if isinstance(node, ast.Name) and isinstance(node.ctx, ast.Load):
                    known = set(names) | BUILTINS
                    self.assertIn(node.id, known, (path, node.lineno))
                    self.assertNotEqual(node.id, "_")
                if isinstance(node, ast.Call) and isinstance(node.func, ast.Attribute):
                    self.assertIn(node.func.attr, METHODS | OWN_METHODS, (path, node.lineno))

    def test_what_is_not_used(self):
        for path, tree in trees():
            for node in ast.walk(tree):
                self.assertNotIsInstance(node, BARRED_NODES, path)
                if isinstance(node, ast.Constant):
                    self.assertNotIsInstance(node.value, (float, complex, bytes))
                if isinstance(node, ast.Constant) and isinstance(node.value, str):
                    self.assertNotIn("\x25", node.value)
                    self.assertFalse(node.value.endswith(("._", ".__")) or node.value.startswith("__"))
                if isinstance(node, ast.BinOp) and isinstance(node.op, ast.Pow):
                    self.assertIsInstance(node.right, ast.Constant, (path, node.lineno))
                    self.assertTrue(0 <= node.right.value <= 64)
                if isinstance(node, ast.Compare) and isinstance(node.ops[0], (ast.Is, ast.IsNot)):
                    self.assertIn(node.comparators[0].value, (None, True, False))
                if isinstance(node, ast.Call):
                    self.assertFalse([part for part in node.args if isinstance(part, ast.Starred)], path)
                    self.assertEqual(node.keywords, [])
                if isinstance(node, ast.Raise):
                    self.assertIsInstance(node.exc, ast.Call)
                    self.assertIsNone(node.cause)

    def test_classes(self):
        for path, tree in trees():
            for node in ast.walk(tree):
                if not isinstance(node, ast.ClassDef):
                    continue
                self.assertIn(node, tree.body)
                self.assertEqual((node.decorator_list, node.keywords), ([], []))
                self.assertIsNotNone(ast.get_docstring(node))
                methods = node.body[1:]
                self.assertTrue(all(isinstance(method, ast.FunctionDef) for method in methods), node.name)
                names = [method.name for method in methods]
                self.assertEqual(len(names), len(set(names)))
                self.assertLessEqual({name for name in names if name.startswith("__")}, SPECIAL)
                self.assertTrue(all(method.args.args[0].arg == "self" for method in methods))
                made = [part.attr for part in ast.walk(node) if isinstance(part, ast.Attribute)
                        and isinstance(part.ctx, ast.Store)]
                self.assertEqual(set(made) & set(names), set(), node.name)
                for method in methods:
                    self.check_special(method)

    def check_special(self, method):
        """Operators, lengths and equalities change nothing, and call no methods; `__exit__` sets attributes alone."""
        parts = list(ast.walk(method))
        if method.name in ("__len__", "__contains__", "__eq__"):
            self.assertEqual(len(method.body), 1)
            self.assertIsInstance(method.body[0], ast.Return)
            self.assertFalse([part for part in parts if isinstance(part, ast.Call) and isinstance(part.func, ast.Attribute)])
        if method.name == "__eq__":
            told = ast.unparse(method.body[0])
            self.assertRegex(told, r"^return isinstance\(other, \w+\)( and \(?self\.(\w+) == other\.\2\)?)+$")
        if method.name == "__exit__":
            self.assertEqual([argument.arg for argument in method.args.args], ["self", "kind", "value", "trace"])
            for part in parts[2:]:
                self.assertIsInstance(part, (ast.arg, ast.If, ast.Assign, ast.Attribute, ast.Name, ast.BoolOp, ast.Or,
                                             ast.Compare, ast.Is, ast.IsNot, ast.Constant, ast.Load, ast.Store))
        if method.name == "__init__":
            self.assertFalse([part for part in parts if isinstance(part, ast.Return)])

    def test_errors_are_caught_by_their_own_names(self):
        for path, tree in trees():
            own = {node.name for node in ast.parse((PACKAGE / "errors.py").read_text()).body[1:]}
            for node in ast.walk(tree):
                if isinstance(node, ast.Try):
                    self.assertEqual(node.finalbody, [])
                    for handler in node.handlers:
                        self.assertIn(handler.type.id, own, path)

    def test_sets_are_kept_as_they_may_be(self):
        for path, tree in trees():
            for node in functions(tree):
                kept = [part.targets[0].id for part in ast.walk(node) if isinstance(part, ast.Assign)
                        and isinstance(part.value, ast.Call) and isinstance(part.value.func, ast.Name)
                        and part.value.func.id == "set"]
                stored = [part.id for part in ast.walk(node) if isinstance(part, ast.Name)
                          and isinstance(part.ctx, ast.Store)]
                for name in kept:
                    self.assertEqual(stored.count(name), 1, (path, name))
                    self.assertNotIn(name, [loop.iter.id for loop in ast.walk(node)
                                            if isinstance(loop, (ast.For, ast.comprehension))
                                            and isinstance(loop.iter, ast.Name)])

    def test_ranges_and_the_like_are_gone_over_at_once(self):
        for path, tree in trees():
            allowed = set()
            for node in ast.walk(tree):
                if isinstance(node, (ast.For, ast.comprehension)):
                    allowed.add(node.iter)
                if isinstance(node, ast.Call) and isinstance(node.func, ast.Name):
                    if node.func.id in ("list", "tuple", "sorted", "sum", "any", "all", "enumerate", "min", "max"):
                        allowed.update(node.args[:1])
            for node in ast.walk(tree):
                if isinstance(node, ast.Call) and isinstance(node.func, ast.Name):
                    if node.func.id in ("zip", "enumerate", "reversed", "range", "map"):
                        self.assertIn(node, allowed, (path, node.lineno))

    def test_names_of_own_functions_are_not_taken(self):
        taken = {}
        for path, tree in trees():
            for node in tree.body:
                if isinstance(node, (ast.FunctionDef, ast.ClassDef)):
                    self.assertNotIn(node.name, taken, (path, taken.get(node.name)))
                    taken[node.name] = path


if __name__ == "__main__":
    unittest.main()
