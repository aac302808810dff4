"""What of the language's rules can be looked up in the package's files; each finding is (rule, file, row)."""

import ast
import builtins
import re
import unittest
from pathlib import Path

PACKAGE = Path(__file__).resolve().parent.parent / "latticeworks"

ALLOWED_BUILTINS = set("""len range enumerate zip min max sum abs sorted reversed int str bool list tuple dict set
frozenset isinstance ord repr any all divmod Exception ValueError TypeError KeyError IndexError LookupError
ZeroDivisionError ArithmeticError OverflowError RuntimeError NotImplementedError AttributeError
StopIteration""".split())

ALLOWED_METHODS = set("""append clear copy count endswith extend find get index insert isalnum isalpha isdigit islower
isspace isupper items join keys ljust lower lstrip partition pop remove replace reverse rfind rjust rpartition rsplit
rstrip setdefault split splitlines startswith strip update upper values zfill bit_length""".split())

DOUBLE_METHODS = set("__init__ __eq__ __repr__ __str__ __len__".split())

NEVER = set("register mro elements open input version_info with_traceback add_note f_back tb_next co_names".split())

NEVER_NAMES = set("""attrgetter breakpoint builtins compile copyright credits delattr dir eval exec exit gc getattr
globals hasattr help id importlib license locals methodcaller os quit setattr super type vars sys""".split())

NEVER_WORDS = set("""type typing typing_extensions enum Enum IntEnum StrEnum Flag IntFlag Generic Protocol ABC ABCMeta
namedtuple NamedTuple TypedDict TYPE_CHECKING abstractmethod""".split())

NEVER_WITHIN = ("dataclass", "overload", "contextmanager")

NEVER_FILES = set("test tests testing site conftest sitecustomize usercustomize".split())

STATEMENTS = (ast.Assign, ast.AugAssign, ast.If, ast.While, ast.For, ast.Return, ast.Break, ast.Continue, ast.Pass,
              ast.Raise, ast.Try, ast.FunctionDef, ast.ClassDef, ast.ImportFrom)

NEVER_EXPRESSIONS = (ast.SetComp, ast.DictComp, ast.GeneratorExp, ast.NamedExpr, ast.Starred, ast.Await, ast.Yield,
                     ast.YieldFrom, ast.Div, ast.MatMult)

WALKED = set("zip enumerate reversed range".split())

WALKED_IN = set("list tuple dict sorted sum any all enumerate zip min max".split())


def python_names():
    return {name for name in dir(builtins) if not name.startswith("_")}


def rows_found(tree, rule, wrong):
    return [(rule, node.lineno) for node in ast.walk(tree) if wrong(node)]


def text_findings(text):
    """L10, L14, L17: what the bare text shows."""
    found = []
    rows = text.split("\n")
    if len(rows) - 1 > 400:
        found.append(("L10", 401))
    for k, row in enumerate(rows, start=1):
        if len(row) > 120 or "\t" in row:
            found.append(("L10", k))
        if re.search("[^ -~]", row):
            found.append(("L14", k))
        words = set(re.findall(r"\w+", row))
        if words & NEVER_WORDS or any(part in row for part in NEVER_WITHIN):
            found.append(("L17", k))
    return found


def import_findings(tree):
    """L2, L16: only from .. import .. of the package's own modules, at the top."""
    found = rows_found(tree, "L2", lambda node: isinstance(node, ast.Import))
    for node in ast.walk(tree):
        if isinstance(node, ast.ImportFrom):
            own = node.level == 0 and re.fullmatch(r"latticeworks\.[a-z0-9_]+", node.module or "")
            later = node.module == "__future__" and [name.name for name in node.names] == ["annotations"]
            star = any(name.name == "*" for name in node.names)
            if star or node not in tree.body or not (own or later) or node.module == "latticeworks.__main__":
                found.append(("L2", node.lineno))
    return found


def is_plain(node, defs):
    if isinstance(node, ast.Constant):
        return node.value is None or isinstance(node.value, (int, str))
    if isinstance(node, ast.UnaryOp) and isinstance(node.op, ast.USub):
        return is_plain(node.operand, defs)
    if isinstance(node, (ast.List, ast.Tuple)):
        return all(is_plain(each, defs) for each in node.elts)
    if isinstance(node, ast.Dict):
        return all(is_plain(each, defs) for each in node.keys + node.values)
    return isinstance(node, ast.Name) and node.id in defs


def top_findings(tree):
    """L3, L15: what stands at a file's top, and each name there once."""
    found = []
    bound = []
    for k, node in enumerate(tree.body):
        names = []
        if isinstance(node, ast.ImportFrom):
            names = [name.asname or name.name for name in node.names]
        elif isinstance(node, (ast.FunctionDef, ast.ClassDef)):
            names = [node.name]
        elif isinstance(node, ast.Assign) and is_plain(node.value, bound):
            names = [target.id for target in node.targets if isinstance(target, ast.Name)]
        elif not (k == 0 and isinstance(node, ast.Expr) and isinstance(node.value, ast.Constant)):
            found.append(("L3", node.lineno))
        found += [("L15", node.lineno) for name in names if name in bound or name in python_names()]
        bound += names
    return found


def is_kept(node):
    return isinstance(node, (ast.List, ast.Dict))


def read_only_uses(tree):
    """Where a name may stand that is a list or dict of the top: indexed, walked, asked with `in` or `get`."""
    good = set()
    for node in ast.walk(tree):
        if isinstance(node, ast.Subscript) and isinstance(node.ctx, ast.Load):
            good.add(node.value)
        elif isinstance(node, (ast.For, ast.comprehension)):
            good.add(node.iter)
        elif isinstance(node, ast.Compare):
            good.update(node.comparators)
        elif isinstance(node, ast.Attribute) and node.attr in ("get", "items", "keys", "values"):
            good.add(node.value)
        elif isinstance(node, ast.Call) and isinstance(node.func, ast.Name) and node.func.id in WALKED_IN | {"len"}:
            good.update(node.args)
    return good


def kept_findings(tree):
    """L15: a list or dict of the top holds none itself, and is only read."""
    kept = [node for node in tree.body if isinstance(node, ast.Assign) and is_kept(node.value)]
    names = {target.id for node in kept for target in node.targets if isinstance(target, ast.Name)}
    found = [("L15", node.lineno) for node in kept
             if any(is_kept(each) for each in ast.walk(node.value) if each is not node.value)]
    good = read_only_uses(tree)
    return found + rows_found(tree, "L15", lambda node: isinstance(node, ast.Name) and isinstance(node.ctx, ast.Load)
                              and node.id in names and node not in good)


def def_findings(tree):
    """L4, L10, L21: plain parameters, no decorators, no annotations, at most forty rows."""
    found = []
    for node in ast.walk(tree):
        if not isinstance(node, (ast.FunctionDef, ast.Lambda)):
            continue
        args = node.args
        if args.vararg or args.kwarg or args.kwonlyargs or args.posonlyargs:
            found.append(("L4", node.lineno))
        if not all(is_plain(each, ()) for each in args.defaults):
            found.append(("L4", node.lineno))
        if isinstance(node, ast.FunctionDef):
            if node.decorator_list:
                found.append(("L4", node.lineno))
            if node.end_lineno - node.lineno + 1 > 40:
                found.append(("L10", node.lineno))
            if node.returns or any(arg.annotation for arg in args.args):
                found.append(("L21", node.lineno))
    return found


def class_findings(tree):
    """L5, L15, L18: plain classes at the top."""
    found = []
    for node in ast.walk(tree):
        if not isinstance(node, ast.ClassDef):
            continue
        if node not in tree.body:
            found.append(("L15", node.lineno))
        if node.decorator_list or node.keywords or len(node.bases) > 1:
            found.append(("L5", node.lineno))
        methods = [each.name for each in node.body if isinstance(each, ast.FunctionDef)]
        if len(methods) != len(set(methods)):
            found.append(("L18", node.lineno))
        found += [("L5", each.lineno) for each in node.body if not isinstance(each, (ast.FunctionDef, ast.Pass))]
        found += [("L5", node.lineno) for name in methods if name.startswith("__") and name not in DOUBLE_METHODS]
    return found


def statement_findings(tree):
    """L6, L19: the statements that there are, one target in an assignment, no handler for everything."""
    found = []
    for node in ast.walk(tree):
        if isinstance(node, ast.stmt) and not isinstance(node, STATEMENTS) and not isinstance(node, ast.Expr):
            found.append(("L6", node.lineno))
        if isinstance(node, ast.Expr) and not isinstance(node.value, ast.Call) and node is not tree.body[0]:
            found.append(("L6", node.lineno))
        if isinstance(node, ast.Assign):
            if len(node.targets) > 1 or isinstance(node.targets[0], (ast.Tuple, ast.List)):
                found.append(("L6", node.lineno))
        if isinstance(node, (ast.For, ast.While)) and node.orelse:
            found.append(("L6", node.lineno))
        if isinstance(node, ast.Try) and node.finalbody:
            found.append(("L6", node.lineno))
        if isinstance(node, ast.ExceptHandler):
            names = [each.id for each in ast.walk(node.type or node) if isinstance(each, ast.Name)]
            if node.type is None or set(names) & {"Exception", "TypeError"}:
                found.append(("L19", node.lineno))
    return found


def expression_findings(tree):
    """L7, L20, L27: the expressions that there are."""
    found = []
    row = 1
    for node in ast.walk(tree):
        row = getattr(node, "lineno", row)
        if isinstance(node, NEVER_EXPRESSIONS):
            found.append(("L7", row))
        if isinstance(node, ast.Constant) and isinstance(node.value, (float, complex, bytes)):
            found.append(("L7", row))
        if isinstance(node, ast.ListComp) and (len(node.generators) > 1 or len(node.generators[0].ifs) > 1):
            found.append(("L7", row))
        if isinstance(node, ast.FormattedValue) and (node.format_spec or not isinstance(node.value, ast.Name)):
            found.append(("L7", row))
        if isinstance(node, ast.Constant) and isinstance(node.value, str) and "%" in node.value:
            found.append(("L27", row))
        if isinstance(node, ast.BinOp) and isinstance(node.op, ast.Pow) and not isinstance(node.right, ast.Constant):
            found.append(("L27", row))
        if isinstance(node, ast.Compare) and any(isinstance(op, (ast.Is, ast.IsNot)) for op in node.ops):
            sides = [node.left] + node.comparators
            if not any(isinstance(side, ast.Constant) and side.value in (None, True, False)
                       and not type(side.value) is int for side in sides):
                found.append(("L20", row))
    return found


def call_findings(tree):
    """L22, L23, L24: Python's own as they are called, and walked at once."""
    found = []
    good = set()
    for node in ast.walk(tree):
        if isinstance(node, (ast.For, ast.comprehension)):
            good.add(node.iter)
        if isinstance(node, ast.Call) and isinstance(node.func, ast.Name):
            if node.func.id in WALKED_IN:
                good.update(node.args if node.func.id == "zip" else node.args[:1])
            if node.func.id == "isinstance":
                kinds = node.args[1].elts if isinstance(node.args[1], ast.Tuple) else [node.args[1]]
                if not all(isinstance(kind, ast.Name) for kind in kinds):
                    found.append(("L22", node.lineno))
    called = {node.func for node in ast.walk(tree) if isinstance(node, ast.Call)}
    keys = {each.value for node in ast.walk(tree) if isinstance(node, ast.Call) for each in node.keywords}
    for node in ast.walk(tree):
        if isinstance(node, ast.Call) and isinstance(node.func, ast.Name):
            if node.func.id in WALKED and node not in good:
                found.append(("L23", node.lineno))
        if isinstance(node, ast.Name) and node.id in ("len", "sorted", "range", "zip", "sum", "min", "max", "abs"):
            if node not in called and node not in keys:
                found.append(("L22", node.lineno))
        if isinstance(node, ast.Set) or (isinstance(node, ast.Name) and node.id in ("set", "frozenset")):
            found.append(("L24", node.lineno))
    return found


def local_names(tree):
    """Each parameter and each local with its row."""
    top = {id(target) for node in tree.body if isinstance(node, ast.Assign) for target in node.targets}
    for node in ast.walk(tree):
        if isinstance(node, ast.arg):
            yield node.arg, node.lineno
        elif isinstance(node, ast.Name) and isinstance(node.ctx, ast.Store) and id(node) not in top:
            yield node.id, node.lineno
        elif isinstance(node, ast.ExceptHandler) and node.name:
            yield node.name, node.lineno


def all_names(tree):
    for node in ast.walk(tree):
        if isinstance(node, ast.Name):
            yield node.id, node.lineno
        elif isinstance(node, ast.Attribute):
            yield node.attr, node.lineno
        elif isinstance(node, ast.arg):
            yield node.arg, node.lineno
        elif isinstance(node, (ast.FunctionDef, ast.ClassDef)):
            yield node.name, node.lineno


def name_findings(tree):
    """L8, L12, L15, L17: the names that are used and given."""
    found = []
    taken = python_names()
    for node in tree.body:
        if isinstance(node, ast.ImportFrom):
            taken |= {name.asname or name.name for name in node.names}
        elif isinstance(node, ast.ClassDef):
            taken.add(node.name)
    found += [("L15", row) for name, row in local_names(tree) if name in taken]
    for name, row in all_names(tree):
        if name in NEVER:
            found.append(("L17", row))
        if not re.fullmatch("[A-Za-z][A-Za-z0-9_]*", name) and name not in DOUBLE_METHODS:
            found.append(("L12", row))
    for node in ast.walk(tree):
        if isinstance(node, ast.Name):
            if node.id in NEVER_NAMES:
                found.append(("L17", node.lineno))
            elif node.id in python_names() and node.id not in ALLOWED_BUILTINS:
                found.append(("L8", node.lineno))
        if isinstance(node, ast.Attribute) and node.attr in ("format", "format_map", "mro"):
            found.append(("L8", node.lineno))
    return found


def own_methods(trees):
    return {each.name for tree in trees for node in tree.body if isinstance(node, ast.ClassDef)
            for each in node.body if isinstance(each, ast.FunctionDef)}


def own_values(trees):
    return {node.attr for tree in trees for node in ast.walk(tree)
            if isinstance(node, ast.Attribute) and isinstance(node.ctx, ast.Store)}


def method_findings(tree, methods):
    """L25: methods of Python's own values, these alone, and called where they stand."""
    return [("L25", node.lineno) for node in ast.walk(tree) if isinstance(node, ast.Call)
            and isinstance(node.func, ast.Attribute) and node.func.attr not in ALLOWED_METHODS | methods]


def findings(text, methods=frozenset()):
    tree = ast.parse(text)
    found = text_findings(text)
    for look in (import_findings, top_findings, def_findings, class_findings, statement_findings, expression_findings,
                 call_findings, name_findings, kept_findings):
        found += look(tree)
    return found + method_findings(tree, methods)


def file_findings(name):
    """L1, L14: a file's name."""
    if name == "__init__.py":
        return []
    stem = name[:-3]
    if not name.endswith(".py") or not re.fullmatch("[a-z][a-z0-9_]*", stem):
        return ["L1"]
    bad = stem in NEVER_FILES or stem.startswith("test_") or stem in python_names() or stem in NEVER_WORDS
    return ["L14"] if bad else []


def drawn_from(tree):
    return {node.module.split(".")[1]: [name.name for name in node.names] for node in tree.body
            if isinstance(node, ast.ImportFrom) and node.module.startswith("latticeworks.")}


def has_ring(draws):
    """Whether some file draws from itself in however many steps."""
    left = dict(draws)
    while left:
        free = [name for name, sources in left.items() if not set(sources) & set(left)]
        if not free:
            return True
        for name in free:
            left.pop(name)
    return False


class Package(unittest.TestCase):
    def setUp(self):
        self.files = sorted(path for path in PACKAGE.iterdir() if path.name != "__pycache__")
        self.texts = {path.stem: path.read_text(encoding="utf-8") for path in self.files}
        self.trees = {name: ast.parse(text) for name, text in self.texts.items()}

    def test_files_and_their_names(self):
        self.assertIn("__init__", self.texts)
        for path in self.files:
            self.assertTrue(path.is_file(), path)
            self.assertEqual(file_findings(path.name), [], path)

    def test_no_row_is_outside_the_language(self):
        methods = own_methods(self.trees.values())
        for name, text in self.texts.items():
            self.assertEqual(findings(text, methods), [], name)

    def test_names_are_drawn_from_the_file_that_defines_them(self):
        for name, tree in self.trees.items():
            for drawn, wanted in drawn_from(tree).items():
                self.assertIn(drawn, self.trees, name)
                defined = [node.name for node in self.trees[drawn].body
                           if isinstance(node, (ast.FunctionDef, ast.ClassDef))]
                defined += [target.id for node in self.trees[drawn].body if isinstance(node, ast.Assign)
                            for target in node.targets]
                for each in wanted:
                    self.assertIn(each, defined, name)

    def test_what_is_drawn_is_used(self):
        for name, tree in self.trees.items():
            used = {node.id for node in ast.walk(tree) if isinstance(node, ast.Name)}
            for wanted in drawn_from(tree).values():
                self.assertEqual(set(wanted) - used, set(), name)

    def test_no_two_files_draw_from_one_another(self):
        self.assertFalse(has_ring({name: drawn_from(tree) for name, tree in self.trees.items()}))
        self.assertEqual(drawn_from(self.trees["__init__"]), {})

    def test_init_binds_no_name_of_a_file(self):
        self.assertEqual([node for node in self.trees["__init__"].body[1:]], [])

    def test_no_name_is_a_method_here_and_a_value_there(self):
        trees = self.trees.values()
        self.assertEqual(own_methods(trees) & own_values(trees), set())
        taken = {name for kind in (str, int, list, dict, set, bytes) for name in dir(kind)} - DOUBLE_METHODS
        self.assertEqual((own_methods(trees) | own_values(trees)) & taken, set())


class TheLookingUp(unittest.TestCase):
    """The looking up itself would be worth nothing if it found nothing."""

    def test_rows_that_are_outside_the_language(self):
        wrong = {
            "L2": ["import sys", "from os import path", "from .rows import dot", "from latticeworks.rows import *",
                   "from latticeworks import rows", "def f():\n    from latticeworks.rows import dot\n    return dot"],
            "L3": ["f()", "if 1:\n    pass", "x = f()", "for k in (1, 2):\n    pass"],
            "L4": ["def f(*args):\n    return args", "def f(**args):\n    return args", "def f(*, a):\n    return a",
                   "@g\ndef f():\n    return 1", "def f(a=g()):\n    return a"],
            "L5": ["class A:\n    x = 1", "class A(B, C):\n    pass", "class A:\n    def __add__(self):\n        pass"],
            "L6": ["def f(x):\n    del x", "def f(x):\n    assert x", "def f():\n    a = b = 1\n    return a + b",
                   "def f(g):\n    with g:\n        pass", "def f():\n    a, b = 1, 2\n    return a + b",
                   "def f(x):\n    for k in x:\n        pass\n    else:\n        pass", "def f():\n    'text'\n    g()"],
            "L7": ["def f():\n    return 1.5", "def f(a):\n    return a / 2", "def f(a):\n    return {k for k in a}",
                   "def f(a):\n    return sum(k for k in a)", "def f(a):\n    return [*a]", "def f():\n    return b''",
                   "def f(a):\n    return [k for r in a for k in r]", "def f(a):\n    return f'{a + 1}'"],
            "L8": ["def f(a):\n    return map(g, a)", "def f(a):\n    return pow(a, 2)", "def f(a):\n    return hash(a)",
                   "def f(a):\n    print(a)", "def f(a):\n    return chr(a)", "def f(a):\n    return a.format(1)"],
            "L10": ["x = 1" + " " * 120, "def f():\n\treturn 1", "def f():\n" + "    g()\n" * 41, "x = 1\n" * 401],
            "L12": ["def f():\n    _a = 1\n    return _a", "def _f():\n    return 1", "def f(a):\n    return a.__class__"],
            "L14": ["x = '\u00e9'", "# \u2013"],
            "L15": ["x = 1\nx = 2", "def f(map):\n    return 1", "def f():\n    id = 1\n    return 1",
                    "from latticeworks.rows import dot\n\n\ndef f(dot):\n    return dot", "def len():\n    return 1",
                    "def f():\n    class A:\n        pass", "x = [[1]]", "x = {1: {}}", "x = {1: ([],)}",
                    "x = [1]\n\n\ndef f():\n    return x", "x = [1]\n\n\ndef f():\n    x.append(2)",
                    "x = {}\n\n\ndef f(k):\n    x[k] = 1", "x = {}\n\n\ndef f():\n    g(x)"],
            "L17": ["# the type of it", "x = 'enum'", "def f(a):\n    return vars(a)", "def f(a):\n    return a.open",
                    "my_dataclasses = 1", "def f(a):\n    return getattr(a, 'b')"],
            "L18": ["class A:\n    def f(self):\n        pass\n\n    def f(self):\n        pass"],
            "L19": ["def f():\n    try:\n        g()\n    except Exception:\n        pass",
                    "def f():\n    try:\n        g()\n    except:\n        pass"],
            "L20": ["def f(a, b):\n    return a is b", "def f(a):\n    return a is 1", "def f(a):\n    return a is not ''"],
            "L21": ["def f(a: int):\n    return a", "def f() -> int:\n    return 1"],
            "L22": ["def f(a):\n    g = len\n    return g(a)", "def f(a, b):\n    return isinstance(a, int | b.c)"],
            "L23": ["def f(a):\n    b = zip(a, a)\n    return b", "def f(n):\n    return range(n)"],
            "L24": ["def f(a):\n    b = set(a)\n    return b", "def f():\n    return {1, 2}"],
            "L25": ["def f(a):\n    a.sort()", "def f(a):\n    return a.casefold()", "def f(a):\n    return a.encode()"],
            "L27": ["x = '5 %'", "def f(n):\n    return 2 ** n"],
        }
        for rule, texts in wrong.items():
            for text in texts:
                self.assertIn(rule, [found[0] for found in findings(text)], text)

    def test_rows_that_keep_to_it(self):
        right = ["x = (1, 'a', None, (2, True))", "x = {'a': (1, 2)}\n\n\ndef f(k):\n    return x[k] if k in x else len(x)",
                 "def g(a):\n    return a\n\n\nx = {'a': g}\n\n\ndef f(k):\n    return x[k](1)", "def f(a, b=1):\n    return a is None or b is not True",
                 "def f(a):\n    return sorted([k for k in range(a) if k > 1], key=lambda k: -k)",
                 "def f(a):\n    for k, b in enumerate(zip(a, a)):\n        g(k, b)",
                 "class A(ValueError):\n    def __init__(self, line):\n        ValueError.__init__(self, f'{line}')"]
        for text in right:
            self.assertEqual(findings(text, {"__init__"}), [], text)

    def test_file_names(self):
        self.assertEqual(file_findings("rows.py"), [])
        for name in ("rows.txt", "Rows.py", "a-b.py", "_a.py"):
            self.assertEqual(file_findings(name), ["L1"])
        for name in ("sum.py", "test_a.py", "typing.py", "conftest.py"):
            self.assertEqual(file_findings(name), ["L14"])

    def test_rings(self):
        self.assertTrue(has_ring({"a": ["b"], "b": ["c"], "c": ["a"]}))
        self.assertTrue(has_ring({"a": ["a"]}))
        self.assertFalse(has_ring({"a": ["b", "c"], "b": ["c"], "c": []}))


if __name__ == "__main__":
    unittest.main()
