"""The package keeps to the small part of Python that it is written in: what can be seen from its form.

Rules are called by their numbers in the language document (L1, L2 ..). Rules that hang on what
values are when the program runs are not looked at here.
"""

import ast
import builtins
import os
import re
import unittest

PACKAGE = "lassoscribe"
FOLDER = os.path.join(os.path.dirname(os.path.dirname(os.path.abspath(__file__))), PACKAGE)

ERRORS = """Exception ValueError TypeError KeyError IndexError LookupError ZeroDivisionError ArithmeticError
    OverflowError RuntimeError NotImplementedError AttributeError StopIteration""".split()
OWN_NAMES = ERRORS + """len range enumerate zip min max sum abs sorted reversed int str bool list tuple dict set
    frozenset isinstance ord repr any all divmod""".split()
METHODS = """append clear copy count endswith extend find get index insert isalnum isalpha isdigit islower isspace
    isupper items join keys ljust lower lstrip partition pop remove replace reverse rfind rjust rpartition rsplit
    rstrip setdefault split splitlines startswith strip update upper values zfill bit_length""".split()
UNDERSCORED = "__init__ __eq__ __repr__ __str__ __len__".split()
NODES = """Module Expr ImportFrom alias FunctionDef arguments arg ClassDef Return Assign AugAssign For While If Raise
    Try ExceptHandler Break Continue Pass BoolOp BinOp UnaryOp Lambda IfExp Dict Set ListComp comprehension Compare
    Call keyword JoinedStr FormattedValue Constant Attribute Subscript Slice Name List Tuple Load Store And Or Not
    Add Sub Mult FloorDiv Mod Pow BitAnd BitOr BitXor LShift RShift Invert USub UAdd Eq NotEq Lt LtE Gt GtE Is
    IsNot In NotIn""".split()
TOP_NODES = (ast.Expr, ast.ImportFrom, ast.FunctionDef, ast.ClassDef, ast.Assign)
NOWHERE = re.compile(r"\b(type|typing|typing_extensions|enum|Enum|IntEnum|StrEnum|Flag|IntFlag|Generic|Protocol|ABC"
                     r"|ABCMeta|namedtuple|NamedTuple|TypedDict|TYPE_CHECKING|abstractmethod)\b"
                     r"|dataclass|overload|contextmanager")
NOT_NAMES = """register mro elements open input version_info with_traceback add_note attrgetter breakpoint builtins
    compile copyright credits delattr dir eval exec exit gc getattr globals hasattr help id importlib license locals
    methodcaller os quit setattr super type vars sys chr""".split()
FILE_NAMES_OUT = "test tests testing site conftest sitecustomize usercustomize".split()
WALKED_AT_ONCE = "zip enumerate reversed range".split()
DICT_WALKS = "items keys values".split()
CHANGERS = "append clear extend insert pop remove reverse setdefault update".split()
WALKERS = "list tuple dict sorted sum any all enumerate zip min max".split()


def changed_in(tree):
    """The names whose lists or dicts are changed there: by a changing method, or at an index."""
    names = []
    for node in ast.walk(tree):
        changed = None
        if isinstance(node, ast.Call) and isinstance(node.func, ast.Attribute) and node.func.attr in CHANGERS:
            changed = node.func.value
        elif isinstance(node, ast.Subscript) and isinstance(node.ctx, ast.Store):
            changed = node.value
        if isinstance(changed, ast.Name):
            names.append(changed.id)
    return names


class Checker:
    def __init__(self, source):
        self.source = source
        self.tree = ast.parse(source)
        self.faults = []
        self.above = {}
        for node in ast.walk(self.tree):
            for child in ast.iter_child_nodes(node):
                self.above[child] = node
        self.classes = [node.name for node in self.tree.body if isinstance(node, ast.ClassDef)]
        self.imports = [alias.name for node in self.tree.body if isinstance(node, ast.ImportFrom)
                        for alias in node.names]
        self.top_stores = [target.id for node in self.tree.body if isinstance(node, ast.Assign)
                           and isinstance(node.value, (ast.List, ast.Dict))
                           for target in node.targets if isinstance(target, ast.Name)]
        self.own_methods = [node.name for node in ast.walk(self.tree) if isinstance(node, ast.FunctionDef)
                            and isinstance(self.above[node], ast.ClassDef)]

    def fault(self, rule, line):
        self.faults.append((rule, line))

    def run(self):
        self.check_text()
        self.check_top()
        if any(name in self.top_stores for name in changed_in(self.tree)):
            self.fault("L15", 0)
        for node in ast.walk(self.tree):
            kind = node.__class__.__name__
            if kind not in NODES:
                self.fault("L6/L7 " + kind, getattr(node, "lineno", 0))
            getattr(self, "see_" + kind, lambda node: None)(node)
        return self.faults

    def check_text(self):
        lines = self.source.split("\n")
        if len(lines) > 401:
            self.fault("L10", 400)
        for number, line in enumerate(lines, start=1):
            if len(line) > 120:
                self.fault("L10", number)
            if any(not " " <= sign <= "~" for sign in line):
                self.fault("L14", number)
            if NOWHERE.search(line):
                self.fault("L17", number)

    def check_top(self):
        bound = list(self.imports)
        for place, node in enumerate(self.tree.body):
            if not isinstance(node, TOP_NODES):
                self.fault("L3", node.lineno)
            if isinstance(node, ast.Expr) and not (place == 0 and self.is_docstring(node)):
                self.fault("L3", node.lineno)
            if isinstance(node, (ast.FunctionDef, ast.ClassDef)):
                bound.append(node.name)
            if isinstance(node, ast.Assign):
                bound.extend(target.id for target in node.targets if isinstance(target, ast.Name))
                self.check_plain_value(node.value, 0)
        for name in bound:
            if bound.count(name) > 1:
                self.fault("L15", 0)

    def check_plain_value(self, node, depth):
        if isinstance(node, (ast.List, ast.Dict)) and depth > 0:
            self.fault("L15", node.lineno)
        parts = getattr(node, "elts", [])
        if isinstance(node, ast.Dict):
            parts = node.keys + node.values
        elif not isinstance(node, (ast.List, ast.Tuple, ast.Constant, ast.Name, ast.UnaryOp)):
            self.fault("L3", node.lineno)
        for part in parts:
            self.check_plain_value(part, depth + 1)

    def is_docstring(self, node):
        return isinstance(node.value, ast.Constant) and isinstance(node.value.value, str)

    def is_call_of(self, node, names):
        return isinstance(node, ast.Call) and isinstance(node.func, ast.Name) and node.func.id in names

    def check_name(self, name, line):
        if not re.fullmatch(r"[A-Za-z][A-Za-z0-9_]*", name):
            self.fault("L12", line)
        if name in NOT_NAMES:
            self.fault("L17", line)

    def check_local(self, name, line):
        self.check_name(name, line)
        if hasattr(builtins, name) or name in self.classes or name in self.imports:
            self.fault("L15", line)

    def see_Expr(self, node):
        if not isinstance(node.value, ast.Call) and not isinstance(self.above[node], ast.Module):
            self.fault("L6", node.lineno)

    def see_ImportFrom(self, node):
        if not isinstance(self.above[node], ast.Module) or node.level:
            self.fault("L2", node.lineno)
        if not re.fullmatch(PACKAGE + r"(\.[a-z0-9_]+)+", node.module or ""):
            self.fault("L2", node.lineno)
        for alias in node.names:
            if alias.name == "*" or alias.asname:
                self.fault("L2", node.lineno)

    def see_FunctionDef(self, node):
        if node.decorator_list or node.args.vararg or node.args.kwarg or node.args.kwonlyargs \
                or node.args.posonlyargs:
            self.fault("L4", node.lineno)
        if node.returns:
            self.fault("L21", node.lineno)
        if node.end_lineno - node.lineno + 1 > 40:
            self.fault("L10", node.lineno)
        in_class = isinstance(self.above[node], ast.ClassDef)
        if not (in_class and node.name in UNDERSCORED):
            self.check_name(node.name, node.lineno)
        if not in_class and hasattr(builtins, node.name):
            self.fault("L8", node.lineno)

    def see_ClassDef(self, node):
        self.check_name(node.name, node.lineno)
        if node.decorator_list or node.keywords or len(node.bases) > 1:
            self.fault("L5", node.lineno)
        if not isinstance(self.above[node], ast.Module):
            self.fault("L15", node.lineno)
        for part in node.body:
            if not isinstance(part, (ast.FunctionDef, ast.Pass)):
                self.fault("L5", part.lineno)

    def see_arg(self, node):
        self.check_local(node.arg, node.lineno)
        if node.annotation:
            self.fault("L21", node.lineno)

    def see_Assign(self, node):
        if len(node.targets) > 1:
            self.fault("L6", node.lineno)

    def see_While(self, node):
        if node.orelse:
            self.fault("L6", node.lineno)

    def see_For(self, node):
        self.see_While(node)
        walked = [part.id for part in ast.walk(node.iter) if isinstance(part, ast.Name)]
        for statement in node.body:
            for name in changed_in(statement):
                # A copy may be walked while the list itself is changed.
                if name in walked and not self.is_call_of(node.iter, ["list", "tuple", "sorted", "range"]):
                    self.fault("L23", node.lineno)

    def see_Try(self, node):
        if node.finalbody:
            self.fault("L6", node.lineno)

    def see_ExceptHandler(self, node):
        if node.type is None or any(isinstance(name, ast.Name) and name.id in ("Exception", "TypeError")
                                    for name in ast.walk(node.type)):
            self.fault("L19", node.lineno)

    def see_Constant(self, node):
        if not (node.value is None or isinstance(node.value, (bool, int, str))):
            self.fault("L7", node.lineno)
        if isinstance(node.value, str) and "%" in node.value:
            self.fault("L27", node.lineno)

    def see_BinOp(self, node):
        if isinstance(node.op, ast.Pow) and not isinstance(node.right, ast.Constant):
            self.fault("L27", node.lineno)

    def see_ListComp(self, node):
        if len(node.generators) > 1 or len(node.generators[0].ifs) > 1:
            self.fault("L7", node.lineno)

    def see_FormattedValue(self, node):
        if not isinstance(node.value, ast.Name) or node.format_spec or node.conversion not in (-1, ord("r")):
            self.fault("L7", node.lineno)

    def see_Compare(self, node):
        sides = [node.left] + node.comparators
        for place, op in enumerate(node.ops):
            beside = [side.value for side in sides[place:place + 2] if isinstance(side, ast.Constant)]
            if isinstance(op, (ast.Is, ast.IsNot)) and not any(side in (None, True, False) for side in beside):
                self.fault("L20", node.lineno)

    def see_Name(self, node):
        if isinstance(node.ctx, ast.Store):
            self.check_local(node.id, node.lineno)
            return
        self.check_name(node.id, node.lineno)
        if hasattr(builtins, node.id) and node.id not in OWN_NAMES:
            self.fault("L8", node.lineno)
        above = self.above[node]
        if node.id in OWN_NAMES and node.id not in ERRORS and not (isinstance(above, ast.Call) and above.func is node) \
                and not isinstance(above, ast.keyword) and not self.names_a_kind(node, above):
            self.fault("L22", node.lineno)

    def names_a_kind(self, node, above):
        outer = self.above[above] if isinstance(above, ast.Tuple) else above
        return self.is_call_of(outer, ["isinstance"]) and node.id in ("int", "str", "bool", "list", "tuple", "dict")

    def see_Attribute(self, node):
        if node.attr in ("format", "format_map", "mro", "register", "elements", "open", "input"):
            self.fault("L17", node.lineno)
        if node.attr.startswith("_") and node.attr not in UNDERSCORED:
            self.fault("L12", node.lineno)

    def see_Call(self, node):
        if isinstance(node.func, ast.Attribute):
            builtin_method = any(hasattr(kind, node.func.attr) for kind in (str, int, list, tuple, dict, set))
            if builtin_method and node.func.attr not in METHODS + UNDERSCORED + self.own_methods:
                self.fault("L25", node.lineno)
        if any(isinstance(part, ast.Starred) for part in node.args) or any(not part.arg for part in node.keywords):
            self.fault("L7", node.lineno)
        above = self.above[node]
        if self.is_call_of(node, ["set", "frozenset"]):
            while isinstance(above, ast.BinOp):
                above = self.above[above]
            if not isinstance(above, ast.Compare) and not self.is_call_of(above, ["sorted", "len"]):
                self.fault("L24", node.lineno)
        dict_walk = isinstance(node.func, ast.Attribute) and node.func.attr in DICT_WALKS
        if self.is_call_of(node, WALKED_AT_ONCE) or dict_walk:
            walked = isinstance(above, (ast.For, ast.comprehension)) or self.is_call_of(above, WALKERS)
            if not walked and not self.is_call_of_join(above):
                self.fault("L23", node.lineno)

    def is_call_of_join(self, node):
        return isinstance(node, ast.Call) and isinstance(node.func, ast.Attribute) and node.func.attr == "join"


def package_sources():
    sources = {}
    for name in sorted(os.listdir(FOLDER)):
        if name.endswith(".py"):
            with open(os.path.join(FOLDER, name), encoding="ascii", newline="") as file:
                sources[name[:-3]] = file.read()
    return sources


def drawn_from(source):
    return [(node.module.split(".")[-1], [alias.name for alias in node.names])
            for node in ast.parse(source).body if isinstance(node, ast.ImportFrom)]


def defined_in(source):
    names = []
    for node in ast.parse(source).body:
        if isinstance(node, (ast.FunctionDef, ast.ClassDef)):
            names.append(node.name)
        elif isinstance(node, ast.Assign):
            names.extend(target.id for target in node.targets)
    return names


class PackageTest(unittest.TestCase):
    def test_every_file_keeps_to_the_rules(self):
        for name, source in package_sources().items():
            with self.subTest(name):
                self.assertEqual(Checker(source).run(), [])

    def test_only_plain_files_lie_in_the_package(self):
        names = [name for name in os.listdir(FOLDER) if name != "__pycache__"]
        self.assertIn("__init__.py", names)
        for name in names:
            with self.subTest(name):
                self.assertRegex(name, r"^([a-z][a-z0-9_]*|__init__|__main__)\.py$")
                stem = name[:-3]
                if not stem.startswith("__"):
                    self.assertFalse(stem in FILE_NAMES_OUT or stem.startswith("test_") or hasattr(builtins, stem)
                                     or NOWHERE.search(stem))

    def test_names_are_drawn_from_the_file_that_defines_them(self):
        sources = package_sources()
        for name, source in sources.items():
            for module, drawn in drawn_from(source):
                with self.subTest(name + " from " + module):
                    self.assertLessEqual(set(drawn), set(defined_in(sources[module])))

    def test_no_two_files_draw_from_one_another(self):
        sources = package_sources()
        left = {name: {module for module, drawn in drawn_from(source)} for name, source in sources.items()}
        while left:
            free = [name for name, needs in left.items() if not needs & set(left)]
            self.assertTrue(free, "these go round: " + ", ".join(left))
            for name in free:
                left.pop(name)


    def test_methods_and_values_of_objects(self):
        methods, values = set(), set()
        for source in package_sources().values():
            for node in ast.walk(ast.parse(source)):
                if isinstance(node, ast.ClassDef):
                    named = [part.name for part in node.body if isinstance(part, ast.FunctionDef)]
                    self.assertEqual(len(named), len(set(named)))
                    methods.update(named)
                if isinstance(node, ast.Attribute) and isinstance(node.ctx, ast.Store):
                    values.add(node.attr)
        self.assertEqual(methods & values, set())
        taken = {name for kind in (str, int, list, tuple, dict, set, bytes) for name in dir(kind)}
        self.assertEqual(values & (taken | {"args", "format"}), set())
        self.assertLessEqual(methods & taken, set(METHODS + UNDERSCORED + ["add", "discard"]))


class CheckerTest(unittest.TestCase):
    """The checker itself sees what it is there for."""

    def test_plain_code_passes(self):
        source = ('"""Words."""\n\nfrom lassoscribe.errors import NoRun\n\nMOST = 3\n\n\ndef f(a, b=1):\n'
                  '    if a is None:\n        raise NoRun("words")\n'
                  '    return [x for x in range(a) if x != b]\n')
        self.assertEqual(Checker(source).run(), [])

    def test_each_fault_is_seen(self):
        for rule, source in [
            ("L3", "import sys\n"), ("L2", "from os import path\n"), ("L2", "from lassoscribe.runs import *\n"),
            ("L2", "from .runs import rest\n"), ("L3", "print(1)\n"), ("L3", "for x in []:\n    pass\n"),
            ("L4", "def f(*a):\n    pass\n"), ("L4", "def f(**a):\n    pass\n"), ("L5", "class A:\n    x = 1\n"),
            ("L6", "def f(x):\n    a = b = x\n"), ("L6", "def f(x):\n    assert x\n"),
            ("L6", "def f(x):\n    while x:\n        pass\n    else:\n        pass\n"),
            ("L6", "def f(x):\n    yield x\n"), ("L7", "def f(x):\n    return x / 2\n"),
            ("L7", "def f(x):\n    return 0.5\n"), ("L7", "def f(x):\n    return any(y for y in x)\n"),
            ("L7", "def f(x):\n    return [y for z in x for y in z]\n"), ("L7", "def f(x):\n    return [*x]\n"),
            ("L8", "def f(x):\n    return map(len, x)\n"), ("L10", "def f(x):\n" + "    x = 1\n" * 40),
            ("L10", "# " + "x" * 119 + "\n"), ("L10", "\n" * 401), ("L12", "def f(x):\n    _y = x\n"),
            ("L14", "# \u00e4\n"), ("L14", "def f(x):\n\treturn x\n"), ("L15", "def f(next):\n    return next\n"),
            ("L15", "A = 1\nA = 2\n"), ("L15", "A = [[1]]\n"), ("L17", "# the type\n"),
            ("L17", "def f(x):\n    return getattr(x, 'a')\n"), ("L17", "def f(x):\n    return chr(x)\n"),
            ("L19", "def f(x):\n    try:\n        pass\n    except Exception:\n        pass\n"),
            ("L20", "def f(x, y):\n    return x is y\n"), ("L21", "def f(x: int):\n    return x\n"),
            ("L22", "def f(x):\n    y = len\n    return y(x)\n"), ("L23", "def f(x):\n    y = range(x)\n    return y\n"),
            ("L23", "def f(x):\n    y = x.items()\n    return y\n"), ("L15", "A = []\n\n\ndef f(x):\n    A.append(x)\n"),
            ("L15", "A = {}\n\n\ndef f(x):\n    A[x] = x\n"),
            ("L23", "def f(x):\n    for y in x:\n        x.append(y)\n"),
            ("L23", "def f(x):\n    for y, z in enumerate(x):\n        x[y] = z\n"),
            ("L24", "def f(x):\n    y = set(x)\n    return y\n"), ("L25", "def f(x):\n    x.sort()\n"),
            ("L25", "def f(x):\n    return x.title()\n"), ("L27", "A = '%'\n"), ("L27", "def f(n):\n    return 2 ** n\n"),
        ]:
            with self.subTest(source):
                found = " ".join(fault for fault, line in Checker(source).run())
                self.assertRegex(found, rule + r"\b")


if __name__ == "__main__":
    unittest.main()
