"""The package keeps those rules of LANGUAGE.md that can be seen file by file (numbers in the names of the tests)."""

import ast
import builtins
import re
import unittest
from pathlib import Path

import bothfree

FOLDER = Path(bothfree.__file__).parent
FILES = {path.stem: path.read_text(encoding="utf-8") for path in sorted(FOLDER.glob("*.py"))}
TREES = {name: ast.parse(text) for name, text in FILES.items()}

BUILTINS = set("""
    len range enumerate zip min max sum abs sorted reversed int str bool bytes list tuple dict set frozenset
    isinstance ord repr any all divmod iter next map Exception ValueError TypeError KeyError IndexError
    LookupError ZeroDivisionError ArithmeticError OverflowError RuntimeError NotImplementedError AttributeError
    StopIteration NotImplemented property
""".split())
LIBRARY = {"heapq": {"heappush", "heappop", "heapify", "heapreplace", "heappushpop"},
           "math": {"gcd", "lcm", "isqrt", "comb", "perm", "factorial"},
           "itertools": {"product", "combinations", "permutations"}}
METHODS = set("""
    append clear copy count endswith extend find get index insert isalnum isalpha isdigit islower isspace isupper
    items join keys ljust lower lstrip partition pop remove replace reverse rfind rjust rpartition rsplit rstrip
    setdefault split splitlines startswith strip update upper values zfill bit_length add discard
""".split())
DUNDERS = set("""
    __init__ __eq__ __repr__ __str__ __len__ __enter__ __exit__ __call__ __iter__ __lt__ __le__ __gt__ __ge__
    __ne__ __add__ __sub__ __mul__ __floordiv__ __mod__ __pow__ __and__ __or__ __xor__ __lshift__ __rshift__
    __iadd__ __neg__ __pos__ __invert__ __abs__ __bool__ __contains__ __getitem__ __setitem__
""".split())
ATTRIBUTES_BARRED = set("""
    items keys values pop update append clear extend insert remove reverse setdefault sort args encode decode hex
    fromhex format format_map mro
""".split())
NAMES_BARRED = set("""
    register mro elements open input law version_info with_traceback add_note attrgetter breakpoint builtins
    compile copyright credits delattr dir eval exec exit gc getattr globals hasattr help id importlib license
    locals methodcaller os quit setattr super type vars sys
""".split())
WORDS_BARRED = r"""
    \b(type|typing|typing_extensions|enum|Enum|IntEnum|StrEnum|Flag|IntFlag|Generic|Protocol|ABC|ABCMeta|namedtuple
    |NamedTuple|TypedDict|TYPE_CHECKING|abstractmethod)\b|dataclass|overload|contextmanager|_wall|_WallAttr"""
NODES_BARRED = (ast.Global, ast.AsyncFunctionDef, ast.AsyncFor, ast.AsyncWith, ast.Await, ast.Import, ast.Div, ast.Set,
                ast.AnnAssign)
LITERALS = (ast.Constant, ast.Tuple, ast.List, ast.Dict, ast.UnaryOp, ast.USub, ast.Load, ast.Name)
FUNCTIONS = (ast.FunctionDef, ast.Lambda)


def nodes(kind):
    """Return pairs of a place in the package and a node of a kind."""
    return [(f"{name}.py:{getattr(node, 'lineno', 0)}", node)
            for name, tree in TREES.items() for node in ast.walk(tree) if isinstance(node, kind)]


def parameters(function):
    told = function.args
    return [part.arg for part in [*told.posonlyargs, *told.args, *told.kwonlyargs, told.vararg, told.kwarg] if part]


def stored_names():
    """Return pairs of a place and a name that is bound there, other than by an import or as an attribute."""
    found = [(at, node.id) for at, node in nodes(ast.Name) if isinstance(node.ctx, ast.Store)]
    found += [(at, name) for at, node in nodes(FUNCTIONS) for name in parameters(node)]
    return found + [(at, node.name) for at, node in nodes((ast.FunctionDef, ast.ClassDef))]


def module_bindings(tree):
    """Return the names that a module binds, and those of its classes and imports."""
    everything, special = [], []
    for node in tree.body:
        if isinstance(node, ast.ImportFrom):
            special += [part.name for part in node.names]
        if isinstance(node, ast.ClassDef):
            special.append(node.name)
        if isinstance(node, ast.FunctionDef):
            everything.append(node.name)
        if isinstance(node, ast.Assign):
            everything.append(node.targets[0].id)
    return everything + special, special


class Language(unittest.TestCase):
    def test_l1_l14_files(self):
        for path in FOLDER.iterdir():
            if path.name != "__pycache__":
                self.assertRegex(path.name, r"\A(__init__|__main__|[a-z][a-z0-9_]*)\.py\Z")
        for name, text in FILES.items():
            self.assertRegex(text, r"\A[ -~\n]*\Z", name)

    def test_l2_l16_imports(self):
        above = {name: set() for name in FILES}
        for name, tree in TREES.items():
            for node in tree.body:
                if isinstance(node, ast.ImportFrom) and node.module not in LIBRARY:
                    self.assertEqual((node.level, node.module.split(".")[0]), (0, "bothfree"))
                    home = node.module.split(".")[1]
                    above[name].add(home)
                    for part in node.names:
                        self.assertIsNone(part.asname)
                        defined = [n.name for n in TREES[home].body if isinstance(n, (ast.FunctionDef, ast.ClassDef))]
                        self.assertTrue(part.name in defined or part.name.isupper(), (name, part.name))
        for at, node in nodes(ast.ImportFrom):
            if node.module in LIBRARY:
                self.assertTrue({part.name for part in node.names} <= LIBRARY[node.module], at)
        while above:
            free = [name for name in above if not above[name]]
            self.assertTrue(free, f"files that import from each other: {sorted(above)}")
            above = {name: homes - set(free) for name, homes in above.items() if name not in free}

    def test_l3_module_level(self):
        for name, tree in TREES.items():
            for node in tree.body[1:]:
                self.assertIsInstance(node, (ast.ImportFrom, ast.FunctionDef, ast.ClassDef, ast.Assign), name)
                if isinstance(node, ast.Assign):
                    self.assertEqual([target.__class__ for target in node.targets], [ast.Name])
                    self.assertTrue(all(isinstance(part, LITERALS) for part in ast.walk(node.value)), name)

    def test_l4_l5_l28_functions_and_methods(self):
        for at, node in nodes((ast.FunctionDef, ast.ClassDef)):
            told = [ast.unparse(part) for part in node.decorator_list]
            self.assertIn(told, ([], ["property"]), at)
            if told:
                # A property only reads: it is one row that returns what its object holds.
                self.assertEqual((parameters(node), len(node.body)), (["self"], 2), at)
        for at, node in nodes(ast.FunctionDef):
            if node.name.startswith("__"):
                self.assertIn(node.name, DUNDERS, at)
            if node.name == "__init__":
                self.assertFalse([part for part in ast.walk(node) if isinstance(part, (ast.Return, ast.Lambda))], at)

    def test_l6_l7_nodes(self):
        self.assertEqual([at for at, node in nodes(NODES_BARRED)], [])
        self.assertEqual([at for at, node in nodes(ast.Constant) if isinstance(node.value, (float, complex))], [])
        # Where a class has __eq__, sums and the like take lists (L7); none is needed elsewhere.
        self.assertEqual([at for at, node in nodes(ast.GeneratorExp)], [])
        for at, node in nodes(ast.Call):
            for part in node.args:
                if isinstance(part, ast.Starred):
                    self.assertIsInstance(part.value, (ast.Name, ast.Attribute), at)

    def test_l8_l15_names_of_builtins(self):
        for at, name in stored_names():
            self.assertFalse(hasattr(builtins, name) and not name.startswith("__"), (at, name))
        for at, node in nodes(ast.Name):
            if hasattr(builtins, node.id):
                self.assertIn(node.id, BUILTINS, at)

    def test_l10_sizes(self):
        for name, text in FILES.items():
            lines = text.split("\n")
            self.assertLessEqual(len(lines), 400, name)
            self.assertLessEqual(max(len(line) for line in lines), 120, name)
        for at, node in nodes(ast.FunctionDef):
            self.assertLessEqual(node.end_lineno - node.lineno + 1, 40, at)

    def test_l12_l17_plain_names(self):
        attributes = [(at, node.attr) for at, node in nodes(ast.Attribute)]
        for at, name in stored_names() + attributes:
            self.assertTrue(re.fullmatch(r"_?[A-Za-z][A-Za-z0-9_]*|_|__[a-z]+__", name), (at, name))
            barred = r"_wall|_pe_|_dcw_|_enum_|_cm_|_twin_re_|_lay_|_law_|_stub_|_sre"
            barred += r"|_(cold|tuplegetter|outside|record|written_out|member_names)[0-9_]*\Z"
            self.assertIsNone(re.match(barred, name), (at, name))
        for at, name in stored_names():
            self.assertNotIn(name, NAMES_BARRED, at)
        for name, text in FILES.items():
            tree = ast.parse(text)
            for node in ast.walk(tree):
                if isinstance(node, (ast.FunctionDef, ast.ClassDef, ast.Module)) and ast.get_docstring(node):
                    node.body[0].value.value = ""
            # Unparsed, a file has no comments any more.
            self.assertIsNone(re.search(WORDS_BARRED, ast.unparse(tree), re.VERBOSE), name)

    def test_l13_l22_calls(self):
        allowed = {"sorted": {"key", "reverse"}, "min": {"key", "default"}, "max": {"key", "default"}, "sum": {"start"},
                   "enumerate": {"start"}, "zip": {"strict"}}
        for at, node in nodes(ast.Call):
            if isinstance(node.func, ast.Name) and node.func.id in BUILTINS:
                self.assertTrue({part.arg for part in node.keywords} <= allowed.get(node.func.id, set()), at)
        lambdas = [at for at, node in nodes(ast.Lambda)]
        self.assertEqual(len(lambdas), len(set(lambdas)))

    def test_l15_one_binding_for_each_name(self):
        for name, tree in TREES.items():
            everything, special = module_bindings(tree)
            self.assertEqual(len(everything), len(set(everything)), name)
            for node in ast.walk(tree):
                inner = parameters(node) if isinstance(node, FUNCTIONS) else []
                if isinstance(node, ast.Name) and isinstance(node.ctx, ast.Store):
                    inner = [node.id]
                self.assertFalse(set(inner) & set(special), name)

    def test_l18_l25_l26_methods_and_attributes(self):
        own = set()
        for at, node in nodes(ast.ClassDef):
            methods = [part.name for part in node.body if isinstance(part, ast.FunctionDef)]
            kept = [part for part in ast.walk(node) if isinstance(part, ast.Attribute)]
            kept = {part.attr for part in kept if isinstance(part.ctx, ast.Store)}
            self.assertEqual(len(methods), len(set(methods)), at)
            self.assertFalse(kept & set(methods), at)
            self.assertFalse(kept & ATTRIBUTES_BARRED, at)
            own |= set(methods)
        for at, node in nodes(ast.Call):
            if isinstance(node.func, ast.Attribute):
                self.assertIn(node.func.attr, METHODS | own, at)

    def test_l19_errors(self):
        for at, node in nodes(ast.ExceptHandler):
            self.assertIsNotNone(node.type, at)
        for at, node in nodes(ast.Raise):
            self.assertIsInstance(node.exc, (ast.Call, type(None)), at)

    def test_l20_is(self):
        for at, node in nodes(ast.Compare):
            for sign, part in zip(node.ops, node.comparators):
                if isinstance(sign, (ast.Is, ast.IsNot)):
                    self.assertIn(getattr(part, "value", 0), (None, True, False), at)

    def test_l23_generators(self):
        generators = {node.name for at, node in nodes(ast.FunctionDef)
                      if any(isinstance(part, (ast.Yield, ast.YieldFrom)) for part in ast.walk(node))}
        self.assertLessEqual(generators, {"worlds"})
        names = [node.name for at, node in nodes(ast.FunctionDef)]
        self.assertEqual([name for name in generators if names.count(name) > 1], [])
        # The package itself does not call one.
        for at, node in nodes(ast.Attribute):
            self.assertNotIn(node.attr, generators, at)

    def test_l24_sets(self):
        for at, node in nodes(ast.For):
            self.assertFalse(isinstance(node.iter, (ast.Set, ast.SetComp)), at)
        for name, text in FILES.items():
            self.assertIsNone(re.search(r"in set\(.*\):", text), name)

    def test_l27_numbers_and_strings(self):
        for at, node in nodes(ast.Constant):
            if isinstance(node.value, str):
                self.assertNotIn("%", node.value, at)
                self.assertFalse(node.value.endswith(("._", ".__")), at)
        for at, node in nodes(ast.BinOp):
            if isinstance(node.op, ast.Pow):
                self.assertIsInstance(node.right, ast.Constant, at)
        for name, text in FILES.items():
            self.assertIsNone(re.search(r"\\[^nt\\\"']", text), name)


if __name__ == "__main__":
    unittest.main()
