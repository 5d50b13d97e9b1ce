"""Rules of LANGUAGE.md, in part and at times stricter, that can be read off the files; each test names its rules."""

import ast
import builtins
import io
import pathlib
import re
import tokenize
import unittest

PACKAGE = pathlib.Path(__file__).resolve().parent.parent / "thinslopes"
LIBRARY = {
    "heapq": {"heappush", "heappop", "heapify", "heapreplace", "heappushpop"},
    "math": {"gcd", "lcm", "isqrt", "comb", "perm", "factorial"},
    "itertools": {"chain", "accumulate", "pairwise", "islice", "zip_longest"},
    "collections": {"defaultdict"},
}
BUILTINS = set(
    "len range enumerate zip min max sum abs sorted reversed int str bool list tuple dict set isinstance ord repr any "
    "all divmod pow iter next map getattr hasattr setattr property staticmethod classmethod super NotImplemented "
    "Exception ValueError TypeError KeyError IndexError LookupError ZeroDivisionError ArithmeticError OverflowError "
    "RuntimeError NotImplementedError AttributeError StopIteration".split()
)
METHODS = set(
    "append clear copy count endswith extend find get index insert isalnum isalpha isdigit islower isspace isupper "
    "items join keys ljust lower lstrip partition pop remove replace reverse rfind rjust rpartition rsplit rstrip "
    "setdefault split splitlines startswith strip update upper values zfill bit_length add discard".split()
)
DOUBLE = set(
    "__init__ __eq__ __ne__ __repr__ __str__ __len__ __iter__ __call__ __contains__ __add__ __sub__ __mul__ __neg__ "
    "__bool__ __lt__ __le__ __gt__ __ge__".split()
)
NOT_NAMES = set(
    "register mro elements open input law version_info with_traceback add_note attrgetter breakpoint builtins compile "
    "copyright credits delattr dir eval exec exit gc globals help id importlib license locals methodcaller os quit "
    "type vars sys _cold _tuplegetter _outside _record _written_out _member_names".split()
)
NOT_WORDS = set(
    "type typing typing_extensions enum Enum IntEnum StrEnum Flag IntFlag Generic Protocol ABC ABCMeta namedtuple "
    "NamedTuple TypedDict TYPE_CHECKING abstractmethod dataclass overload contextmanager _wall _WallAttr".split()
)
STATEMENTS = (
    ast.FunctionDef, ast.ClassDef, ast.Return, ast.Delete, ast.Assign, ast.AugAssign, ast.For, ast.While, ast.If,
    ast.Raise, ast.Assert, ast.Expr, ast.Pass, ast.Break, ast.Continue, ast.ImportFrom, ast.Try, ast.Nonlocal,
    ast.Match, ast.With, ast.AnnAssign,
)
NOT_EXPRESSIONS = (ast.Await, ast.Div, ast.MatMult)


def sources():
    return {path.stem: path.read_text(encoding="utf-8") for path in sorted(PACKAGE.glob("*.py"))}


def trees():
    return {name: ast.parse(text) for name, text in sources().items()}


def nodes():
    return [(name, node) for name, tree in trees().items() for node in ast.walk(tree)]


def bound_names(node):
    """The names that this node binds."""
    if isinstance(node, (ast.FunctionDef, ast.ClassDef)):
        return [node.name]
    if isinstance(node, ast.Name) and isinstance(node.ctx, ast.Store):
        return [node.id]
    if isinstance(node, ast.arg):
        return [node.arg]
    if isinstance(node, ast.ImportFrom):
        return [alias.name for alias in node.names]
    if isinstance(node, ast.ExceptHandler) and node.name:
        return [node.name]
    return []


def own_names(kind):
    return {node.name for name, node in nodes() if isinstance(node, kind)}


class FormTest(unittest.TestCase):
    def none(self, found):
        self.assertEqual([str(thing) for thing in found], [])

    def places(self, wrong):
        return [(name, node.lineno) for name, node in nodes() if hasattr(node, "lineno") and wrong(node)]

    def test_files(self):
        """L1, L14"""
        found = [path.name for path in PACKAGE.iterdir() if path.name != "__pycache__"]
        self.none([name for name in found if not re.fullmatch(r"[a-z][a-z0-9_]*\.py|__init__\.py", name)])
        self.assertIn("__init__.py", found)
        self.none([name for name in found if name.startswith(("law_", "test")) or name[:-3] in dir(builtins)])

    def test_characters_and_sizes(self):
        """L10, L14"""
        for name, text in sources().items():
            self.assertTrue(all(" " <= sign <= "~" or sign == "\n" for sign in text), name)
            self.assertTrue(all(len(line) <= 120 for line in text.split("\n")), name)
            self.assertLessEqual(len(text.split("\n")), 399, name)
        self.none(self.places(
            lambda node: isinstance(node, ast.FunctionDef) and node.end_lineno - node.lineno >= 40
        ))

    def test_words(self):
        """L17, L27"""
        for name, text in sources().items():
            for token in tokenize.generate_tokens(io.StringIO(text).readline):
                if token.type == tokenize.NAME:
                    self.assertNotIn(token.string, NOT_WORDS, (name, token.start))
                if token.type == tokenize.STRING:
                    self.assertNotIn("%", token.string, (name, token.start))
                    if not token.string.startswith('"""'):
                        self.none(set(re.findall(r"\w+", token.string)) & (NOT_WORDS - {"type"}))

    def test_statements_and_expressions(self):
        """L6, L7"""
        self.none(self.places(lambda node: isinstance(node, ast.stmt) and not isinstance(node, STATEMENTS)))
        self.none(self.places(lambda node: isinstance(node, NOT_EXPRESSIONS)))
        self.none(self.places(lambda node: isinstance(node, ast.BinOp) and isinstance(node.op, NOT_EXPRESSIONS)))
        self.none(self.places(
            lambda node: isinstance(node, ast.Constant) and isinstance(node.value, (float, complex, type(...)))
        ))

    def test_module_level(self):
        """L3, L15"""
        for name, tree in trees().items():
            bound = []
            for number, node in enumerate(tree.body):
                docstring = number == 0 and isinstance(node, ast.Expr) and isinstance(node.value, ast.Constant)
                allowed = (ast.ImportFrom, ast.FunctionDef, ast.ClassDef, ast.Assign)
                self.assertTrue(docstring or isinstance(node, allowed), (name, node.lineno))
                if isinstance(node, ast.Assign):
                    self.assertEqual([type(target) for target in node.targets], [ast.Name], (name, node.lineno))
                    ast.literal_eval(node.value)
                    bound.append(node.targets[0].id)
                else:
                    bound.extend(bound_names(node))
            self.assertEqual(len(bound), len(set(bound)), name)

    def test_lists_and_dicts_at_module_level_are_only_read(self):
        """L15: by an index, by a method that reads, by `in`, or copied."""
        for name, tree in trees().items():
            kept = {node.targets[0].id for node in tree.body if isinstance(node, ast.Assign)
                    and isinstance(node.value, (ast.List, ast.Dict))}
            fine = set()
            for node in ast.walk(tree):
                if isinstance(node, ast.Subscript) and isinstance(node.ctx, ast.Load):
                    fine.add(node.value)
                if isinstance(node, ast.Attribute) and node.attr in ("get", "items", "keys", "values", "index", "count"):
                    fine.add(node.value)
                if isinstance(node, ast.Call) and ast.unparse(node.func) in ("dict", "list", "len", "sorted"):
                    fine.update(node.args)
                if isinstance(node, ast.Compare):
                    fine.update(node.comparators)
                if isinstance(node, (ast.For, ast.comprehension)):
                    fine.add(node.iter)
            self.none((name, node.lineno, node.id) for node in ast.walk(tree) if isinstance(node, ast.Name)
                      and node.id in kept and isinstance(node.ctx, ast.Load) and node not in fine)

    def test_imports(self):
        """L2, L16"""
        known = trees()
        reached = {}
        for name, tree in known.items():
            reached[name] = set()
            for node in tree.body:
                if isinstance(node, ast.ImportFrom):
                    self.assertEqual(node.level, 0)
                    self.assertFalse([alias for alias in node.names if alias.asname])
                    names = {alias.name for alias in node.names}
                    if node.module in LIBRARY:
                        self.assertLessEqual(names, LIBRARY[node.module])
                        continue
                    package, _, module = node.module.partition(".")
                    self.assertEqual(package, "thinslopes")
                    reached[name].add(module)
                    defined = [bound for other in known[module].body for bound in bound_names(other)]
                    defined += [other.targets[0].id for other in known[module].body if isinstance(other, ast.Assign)]
                    imported = [bound for other in known[module].body if isinstance(other, ast.ImportFrom)
                                for bound in bound_names(other)]
                    self.assertLessEqual(names, set(defined) - set(imported), name)
        while reached:
            free = [name for name in reached if not reached[name] & set(reached)]
            self.assertTrue(free, "files import each other in a ring: " + ", ".join(reached))
            for name in free:
                del reached[name]

    def test_every_import_is_used(self):
        for name, tree in trees().items():
            used = {node.id for node in ast.walk(tree) if isinstance(node, ast.Name)}
            imported = {bound for node in tree.body if isinstance(node, ast.ImportFrom) for bound in bound_names(node)}
            self.none((name, bound) for bound in imported - used)

    def test_names(self):
        """L8, L12, L15, L17"""
        for name, node in nodes():
            for bound in bound_names(node):
                where = (name, getattr(node, "lineno", 0), bound)
                self.assertRegex(bound, r"^(_?[A-Za-z][A-Za-z0-9_]*|_|__[a-z]+__)$", where)
                self.assertNotIn(bound, NOT_NAMES, where)
                self.assertNotIn(bound, dir(builtins), where)
                self.assertFalse(bound.startswith("__") and bound not in DOUBLE, where)
            if isinstance(node, ast.Name):
                self.assertFalse(node.id in dir(builtins) and node.id not in BUILTINS, (name, node.lineno, node.id))
                self.assertFalse(node.id == "_" and isinstance(node.ctx, ast.Load), (name, node.lineno))

    def test_no_name_stands_for_an_import_or_a_class_of_its_file(self):
        """L15"""
        for name, tree in trees().items():
            taken = {bound for node in tree.body if isinstance(node, (ast.ImportFrom, ast.ClassDef))
                     for bound in bound_names(node)}
            for node in ast.walk(tree):
                if isinstance(node, (ast.arg, ast.Name)):
                    self.none((name, node.lineno, bound) for bound in bound_names(node) if bound in taken)

    def test_methods_that_are_called(self):
        """L25"""
        functions = own_names(ast.FunctionDef)
        for name, node in nodes():
            if isinstance(node, ast.Call) and isinstance(node.func, ast.Attribute):
                self.assertIn(node.func.attr, METHODS | functions, (name, node.lineno))
                if node.func.attr not in functions:
                    self.assertEqual(node.keywords, [], (name, node.lineno))

    def test_decorators_and_classes(self):
        """L4, L5, L18"""
        for name, node in nodes():
            if isinstance(node, ast.FunctionDef):
                self.none(deco.lineno for deco in node.decorator_list if ast.unparse(deco) != "property")
            if isinstance(node, ast.ClassDef):
                self.assertEqual((node.decorator_list, node.keywords), ([], []), (name, node.name))
                methods = [part.name for part in node.body if isinstance(part, ast.FunctionDef)]
                stored = {part.attr for part in ast.walk(node)
                          if isinstance(part, ast.Attribute) and isinstance(part.ctx, ast.Store)}
                self.assertEqual(len(methods), len(set(methods)), (name, node.name))
                self.assertFalse(stored & set(methods), (name, node.name))

    def test_generator_expressions(self):
        """L7: classes of the package have ==, so any, all, min, max, sum and sorted take a list."""
        calls = [(name, node) for name, node in nodes() if isinstance(node, ast.Call)]
        for name, node in calls:
            if ast.unparse(node.func) in ("any", "all", "min", "max", "sum", "sorted"):
                self.none((name, arg.lineno) for arg in node.args if isinstance(arg, ast.GeneratorExp))

    def test_iterated_at_once(self):
        """L23: ranges, zips, views and generators are not passed on, returned or put into other values."""
        generators = {node.name for name, node in nodes() if isinstance(node, ast.FunctionDef)
                      and any(isinstance(part, (ast.Yield, ast.YieldFrom)) for part in ast.walk(node))}
        allowed = {"list", "tuple", "dict", "sorted", "sum", "min", "max", "any", "all", "enumerate", "zip"}
        for name, tree in trees().items():
            fine = set()
            for node in ast.walk(tree):
                if isinstance(node, (ast.For, ast.comprehension)):
                    fine.add(node.iter)
                if isinstance(node, ast.Call) and ast.unparse(node.func) in allowed:
                    fine.update(node.args)
                if isinstance(node, ast.Call) and ast.unparse(node.func) in ("reversed", "len"):
                    fine.update(arg for arg in node.args if ast.unparse(arg).startswith("range("))
                if isinstance(node, ast.Compare):
                    fine.update(arg for arg in node.comparators if ast.unparse(arg).startswith("range("))
                if isinstance(node, ast.Assign) and ast.unparse(node.value).startswith("range("):
                    fine.add(node.value)
            for node in ast.walk(tree):
                if isinstance(node, ast.Call) and node not in fine:
                    called = node.func.attr if isinstance(node.func, ast.Attribute) else ast.unparse(node.func)
                    barred = {"range", "zip", "enumerate", "reversed", "map", "items", "keys", "values", *generators}
                    self.assertNotIn(called, barred, (name, node.lineno))

    def test_names_of_generators(self):
        """L23: no other function, method, parameter or variable has the name of a generator."""
        generators = [node.name for name, node in nodes() if isinstance(node, ast.FunctionDef)
                      and any(isinstance(part, (ast.Yield, ast.YieldFrom)) for part in ast.walk(node))]
        bound = [bound for name, node in nodes() if not isinstance(node, ast.ImportFrom) for bound in bound_names(node)]
        self.none(name for name in generators if bound.count(name) != 1)

    def test_what_a_loop_goes_over_is_not_changed_in_it(self):
        """L23"""
        changing = {"append", "extend", "insert", "pop", "remove", "clear", "reverse", "update", "setdefault", "sort"}
        for name, node in nodes():
            if isinstance(node, ast.For):
                parts = [part for part in ast.walk(node.iter) if isinstance(part, (ast.Name, ast.Attribute))]
                over = {ast.unparse(part) for part in parts}
                for part in [inner for line in node.body for inner in ast.walk(line)]:
                    if isinstance(part, ast.Call) and isinstance(part.func, ast.Attribute):
                        if part.func.attr in changing:
                            self.assertNotIn(ast.unparse(part.func.value), over, (name, part.lineno))
                    if isinstance(part, ast.Subscript) and isinstance(part.ctx, (ast.Store, ast.Del)):
                        self.assertNotIn(ast.unparse(part.value), over - {"len"}, (name, part.lineno))

    def test_sets(self):
        """L24: no set is stored, passed on or gone through; a set stands in sorted(..) or len(..), or behind in."""
        for name, tree in trees().items():
            fine = set()
            for node in ast.walk(tree):
                if isinstance(node, ast.Call) and ast.unparse(node.func) in ("sorted", "len"):
                    fine.update(node.args)
                if isinstance(node, ast.Compare):
                    fine.update(node.comparators)
            for node in ast.walk(tree):
                is_set = isinstance(node, (ast.Set, ast.SetComp))
                is_set = is_set or (isinstance(node, ast.Call) and ast.unparse(node.func) in ("set", "frozenset"))
                self.assertFalse(is_set and node not in fine, (name, getattr(node, "lineno", 0)))

    def test_attributes_that_are_read(self):
        """L18: some class assigns each of them."""
        stored = {node.attr for name, node in nodes() if isinstance(node, ast.Attribute)
                  and isinstance(node.ctx, ast.Store)}
        known = stored | METHODS | own_names(ast.FunctionDef)
        self.none((name, node.lineno, node.attr) for name, node in nodes()
                  if isinstance(node, ast.Attribute) and node.attr not in known)

    def test_calls_pass_what_is_taken(self):
        """L22: no function of the package is passed as a value but as a key."""
        functions = own_names(ast.FunctionDef)
        for name, node in nodes():
            if isinstance(node, ast.Call):
                self.none((name, arg.lineno) for arg in node.args if isinstance(arg, ast.Name) and arg.id in functions
                          and arg.id not in {bound for other in ast.walk(trees()[name]) if isinstance(other, ast.arg)
                                             or isinstance(other, ast.Name) for bound in bound_names(other)})

    def test_operators(self):
        """L20, L27"""
        for name, node in nodes():
            if isinstance(node, ast.Compare):
                for operator, right in zip(node.ops, node.comparators):
                    if isinstance(operator, (ast.Is, ast.IsNot)):
                        self.assertIn(ast.unparse(right), ("None", "True", "False"), (name, node.lineno))
            if isinstance(node, ast.BinOp) and isinstance(node.op, ast.Pow):
                self.assertIsInstance(node.right, ast.Constant, (name, node.lineno))

    def test_handlers(self):
        """L19"""
        for name, node in nodes():
            if isinstance(node, ast.ExceptHandler):
                allowed = {"KeyError", "ZeroDivisionError", *own_names(ast.ClassDef)}
                self.assertIn(ast.unparse(node.type or node), allowed, (name, node.lineno))
