"""Holds the package to the part of Python that the program keeps to: L1 to L28, as far as a look at the code can tell."""

import ast
import builtins
import pathlib
import re
import unittest

PACKAGE = pathlib.Path(__file__).resolve().parent.parent / "turnbase"

MODULES = set("errors turnings texts recipes partings chains groups acts rings parts stairs desk".split())

OWN_NAMES = set("""len range enumerate zip min max sum abs sorted reversed int str bool list tuple dict set frozenset isinstance ord
repr any all divmod Exception ValueError TypeError KeyError IndexError LookupError ZeroDivisionError ArithmeticError OverflowError
RuntimeError NotImplementedError AttributeError StopIteration""".split())
OWN_METHODS = set("""append clear copy count endswith extend find get index insert isalnum isalpha isdigit islower isspace isupper
items join keys ljust lower lstrip partition pop remove replace reverse rfind rjust rpartition rsplit rstrip setdefault split
splitlines startswith strip update upper values zfill bit_length""".split())
CHANGING = set("append clear extend insert pop remove reverse setdefault update".split())
TWO_UNDERSCORES = set("__init__ __eq__ __repr__ __str__ __len__".split())
TAKEN_ERRORS = set("KeyError ZeroDivisionError StopIteration ValueError LookupError IndexError".split())
ERROR_BASES = OWN_NAMES & {name for name in dir(builtins) if name[0].isupper()} - {"StopIteration", "AttributeError"}
KINDS = set("int str bool list tuple dict".split())
KEYS = set("len int str abs sum min max tuple".split())
KEYWORDS = {
    "sorted": {"key", "reverse"}, "min": {"key", "default"}, "max": {"key", "default"}, "sum": {"start"}, "enumerate": {"start"},
    "zip": {"strict"},
}
VALUE_NAMES = set("count index title find get join lower upper split strip copy add".split())
OWN_ATTRIBUTES = {name for kind in (str, int, list, tuple, dict, set, frozenset, bytes) for name in dir(kind)} | {"args", "format"}
WALKED = set("zip enumerate reversed range".split())
WALKED_METHODS = set("items keys values".split())
WALKERS = set("list tuple dict sorted sum any all enumerate zip min max".split())
FILE_NAMES_OUT = set("test tests testing site conftest sitecustomize usercustomize".split()) | set(dir(builtins))
NAMES_OUT = set("""register mro elements open input version_info with_traceback add_note format format_map attrgetter breakpoint builtins
compile copyright credits delattr dir eval exec exit gc getattr globals hasattr help id importlib license locals methodcaller os quit
setattr super vars sys chr""".split())
WORDS_OUT = re.compile(r"""\b(type|typing|typing_extensions|enum|Enum|IntEnum|StrEnum|Flag|IntFlag|Generic|Protocol|ABC|ABCMeta|namedtuple
|NamedTuple|TypedDict|TYPE_CHECKING|abstractmethod)\b|dataclass|overload|contextmanager""".replace("\n", ""))
NODES = (
    ast.Module, ast.FunctionDef, ast.ClassDef, ast.Return, ast.Assign, ast.AugAssign, ast.For, ast.While, ast.If, ast.Raise, ast.Try,
    ast.Expr, ast.Pass, ast.Break, ast.Continue, ast.ImportFrom, ast.alias, ast.BoolOp, ast.BinOp, ast.UnaryOp, ast.IfExp, ast.Dict,
    ast.Set, ast.ListComp, ast.Compare, ast.Call, ast.FormattedValue, ast.JoinedStr, ast.Constant, ast.Attribute, ast.Subscript, ast.Name,
    ast.List, ast.Tuple, ast.Slice, ast.comprehension, ast.ExceptHandler, ast.arguments, ast.arg, ast.keyword, ast.Lambda,
    ast.expr_context, ast.boolop, ast.operator, ast.unaryop, ast.cmpop,
)


class Look:
    """One look at all files of a package; `faults` has a tuple (rule, file, line) for each fault."""

    def __init__(self, sources):
        self.faults = []
        self.trees = {}
        for name, source in sources.items():
            self.look_at_file(name, source)
        self.tops = {name: top_names(tree) for name, tree in self.trees.items()}
        every = [node for tree in self.trees.values() for node in ast.walk(tree)]
        self.methods = {part.name for node in every if isinstance(node, ast.ClassDef) for part in defs_in(node)}
        self.values = {node.attr for node in every if isinstance(node, ast.Attribute) and isinstance(node.ctx, ast.Store)}
        self.errors = {node.name for node in every if isinstance(node, ast.ClassDef) and node.bases}
        self.classes = {node.name for node in every if isinstance(node, ast.ClassDef)}
        for name, tree in self.trees.items():
            self.look_at_tree(name, tree)
        self.look_at_circles()

    def fault(self, rule, name, node):
        self.faults.append((rule, name, getattr(node, "lineno", 0)))

    def look_at_file(self, name, source):
        if not re.fullmatch(r"[a-z0-9_]+", name) or name in FILE_NAMES_OUT:
            self.fault("L14", name, None)
        if not all(" " <= sign <= "~" or sign == "\n" for sign in source):
            self.fault("L14", name, None)
        if WORDS_OUT.search(source):
            self.fault("L17", name, None)
        if re.search(r"\\[^nt\\'\"]", source):
            self.fault("L27", name, None)
        rows = source.split("\n")
        if len(rows) > 401 or any(len(row) > 120 for row in rows):
            self.fault("L10", name, None)
        self.trees[name] = ast.parse(source)

    def look_at_tree(self, name, tree):
        parents = {child: node for node in ast.walk(tree) for child in ast.iter_child_nodes(node)}
        self.look_at_top(name, tree)
        self.look_at_names(name, tree)
        lambdas = [(node.lineno, ast.unparse(node.args)) for node in ast.walk(tree) if isinstance(node, ast.Lambda)]
        if len(lambdas) != len(set(lambdas)):
            self.fault("L13", name, tree)
        for node in ast.walk(tree):
            if not isinstance(node, NODES) or isinstance(node, (ast.Div, ast.MatMult)):
                self.fault("L7" if isinstance(node, (ast.expr, ast.operator)) else "L6", name, node)
            for kind, look in (
                (ast.stmt, self.look_at_statement), (ast.FunctionDef, self.look_at_def), (ast.ClassDef, self.look_at_class),
                (ast.ExceptHandler, self.look_at_handler), (ast.expr, self.look_at_value), (ast.Call, self.look_at_call),
                (ast.Name, self.look_at_own_name), (ast.Attribute, self.look_at_attribute),
            ):
                if isinstance(node, kind):
                    look(name, node, parents)

    def look_at_top(self, name, tree):
        bound = []
        for place, node in enumerate(tree.body):
            if isinstance(node, ast.ImportFrom):
                bound.extend(part.asname or part.name for part in node.names)
                self.look_at_import(name, node)
            elif isinstance(node, (ast.FunctionDef, ast.ClassDef)):
                bound.append(node.name)
            elif isinstance(node, ast.Assign) and isinstance(node.targets[0], ast.Name):
                bound.append(node.targets[0].id)
                if not is_plain(node.value):
                    self.fault("L3", name, node)
                if isinstance(node.value, (ast.List, ast.Dict)) and any(
                    isinstance(part, (ast.List, ast.Dict)) for part in ast.walk(node.value) if part is not node.value
                ):
                    self.fault("L15", name, node)
            elif not (place == 0 and is_remark(node)):
                self.fault("L3", name, node)
        if len(bound) != len(set(bound)):
            self.fault("L15", name, None)
        if name == "__init__" and set(bound) & set(self.trees):
            self.fault("L16", name, None)

    def look_at_import(self, name, node):
        if node.level or not (node.module or "").startswith("turnbase.") or any(part.name == "*" for part in node.names):
            self.fault("L2", name, node)
            return
        drawn = self.tops.get(node.module[len("turnbase."):], {})
        if not all(drawn.get(part.name) for part in node.names):
            self.fault("L16", name, node)

    def look_at_circles(self):
        draws = {
            name: {node.module.split(".")[-1] for node in tree.body if isinstance(node, ast.ImportFrom)} | ({"__init__"} - {name})
            for name, tree in self.trees.items()
        }
        if draws.get("__init__") and any(name != "__init__" for name in draws["__init__"]):
            self.fault("L16", "__init__", None)
        left = dict(draws)
        while left:
            free = [name for name in left if not left[name] & set(left)]
            if not free:
                self.fault("L16", sorted(left)[0], None)
                return
            for name in free:
                del left[name]

    def look_at_names(self, name, tree):
        top = self.tops[name]
        taken = {part for part, own in top.items() if not own}
        taken |= {node.name for node in tree.body if isinstance(node, ast.ClassDef)}
        nodes = list(ast.walk(tree))
        stored = [(node.id, node) for node in nodes if isinstance(node, ast.Name) and isinstance(node.ctx, ast.Store)]
        stored += [(node.arg, node) for node in nodes if isinstance(node, ast.arg)]
        stored += [(node.name, node) for node in nodes if isinstance(node, ast.ExceptHandler) and node.name]
        for word, node in stored:
            if word in taken or word in dir(builtins):
                self.fault("L15", name, node)
        defined = [(node.name, node) for node in nodes if isinstance(node, (ast.FunctionDef, ast.ClassDef))]
        for word, node in stored + defined:
            if word.startswith("_") and word not in TWO_UNDERSCORES | {"__all__", "__version__"}:
                self.fault("L12", name, node)
            if word in NAMES_OUT:
                self.fault("L17", name, node)
        known = set(top) | {word for word, _ in stored + defined} | OWN_NAMES
        for node in nodes:
            if isinstance(node, ast.Name) and node.id not in known:
                self.fault("L8", name, node)

    def look_at_statement(self, name, node, parents):
        if isinstance(node, ast.Assign) and (len(node.targets) != 1 or isinstance(node.targets[0], (ast.Tuple, ast.List))):
            self.fault("L6", name, node)
        if isinstance(node, ast.For) and changes_what_it_walks(node):
            self.fault("L23", name, node)
        if isinstance(node, (ast.For, ast.While)) and node.orelse or isinstance(node, ast.Try) and node.finalbody:
            self.fault("L6", name, node)
        if isinstance(node, ast.Expr) and not isinstance(node.value, ast.Call) and not isinstance(parents[node], ast.Module):
            self.fault("L6", name, node)
        if isinstance(node, ast.ImportFrom) and not isinstance(parents[node], ast.Module):
            self.fault("L2", name, node)
        if isinstance(node, (ast.Assign, ast.AugAssign)):
            target = node.targets[0] if isinstance(node, ast.Assign) else node.target
            if isinstance(target, (ast.Subscript, ast.Attribute)) and getattr(target.value, "id", None) in self.tops[name]:
                self.fault("L15", name, node)
        if isinstance(node, ast.Raise) and not (node.exc is None or isinstance(node.exc, ast.Call)):
            self.fault("L19", name, node)

    def look_at_def(self, name, node, parents):
        told = node.args
        if told.vararg or told.kwarg or told.kwonlyargs or told.posonlyargs or node.decorator_list:
            self.fault("L4", name, node)
        if not all(is_plain(value) for value in told.defaults):
            self.fault("L4", name, node)
        if node.returns or any(part.annotation for part in told.args):
            self.fault("L21", name, node)
        if node.end_lineno - node.lineno >= 40:
            self.fault("L10", name, node)
        if node.name == "__init__" and any(isinstance(part, ast.Return) and part.value for part in ast.walk(node)):
            self.fault("L28", name, node)

    def look_at_class(self, name, node, parents):
        bases = [getattr(base, "id", "") for base in node.bases]
        fine = [base in ERROR_BASES or base in self.tops[name] for base in bases]
        if len(bases) > 1 or not all(fine) or node.keywords or node.decorator_list:
            self.fault("L5", name, node)
        if not all(isinstance(part, (ast.FunctionDef, ast.Pass)) for part in node.body):
            self.fault("L5", name, node)
        if not isinstance(parents[node], ast.Module):
            self.fault("L15", name, node)
        made = [part.name for part in defs_in(node)]
        if len(made) != len(set(made)) or set(made) & self.values:
            self.fault("L18", name, node)
        if set(made) & OWN_ATTRIBUTES - OWN_METHODS - TWO_UNDERSCORES - {"add", "discard"}:
            self.fault("L26", name, node)
        # Best not written, so none is looked at more closely.
        if set(made) & TWO_UNDERSCORES - {"__init__"}:
            self.fault("L28", name, node)

    def look_at_handler(self, name, node, parents):
        kinds = node.type.elts if isinstance(node.type, ast.Tuple) else [node.type]
        if not all(getattr(kind, "id", "") in TAKEN_ERRORS | self.errors for kind in kinds):
            self.fault("L19", name, node)

    def look_at_value(self, name, node, parents):
        if isinstance(node, ast.Constant):
            if not (node.value is None or isinstance(node.value, (int, str))):
                self.fault("L7", name, node)
            if isinstance(node.value, str) and "%" in node.value:
                self.fault("L27", name, node)
        if isinstance(node, ast.ListComp) and (len(node.generators) != 1 or len(node.generators[0].ifs) > 1):
            self.fault("L7", name, node)
        if isinstance(node, ast.FormattedValue):
            if not isinstance(node.value, ast.Name) or node.format_spec or node.conversion not in (-1, ord("r")):
                self.fault("L7", name, node)
        if isinstance(node, ast.BinOp) and isinstance(node.op, ast.Pow):
            if not (isinstance(node.right, ast.Constant) and 0 <= node.right.value <= 64):
                self.fault("L27", name, node)
        if isinstance(node, ast.Compare) and any(isinstance(sign, (ast.Is, ast.IsNot)) for sign in node.ops):
            sides = [node.left] + node.comparators
            if not any(isinstance(side, ast.Constant) and side.value in (None, True, False) for side in sides):
                self.fault("L20", name, node)
        if isinstance(node, ast.Set) and not isinstance(parents[node], ast.Compare):
            self.fault("L24", name, node)

    def look_at_call(self, name, node, parents):
        called = getattr(node.func, "id", None)
        method = getattr(node.func, "attr", None)
        if called in OWN_NAMES and not {part.arg for part in node.keywords} <= KEYWORDS.get(called, set()):
            self.fault("L22", name, node)
        if method in OWN_METHODS and node.keywords:
            self.fault("L22", name, node)
        if (called in WALKED or method in WALKED_METHODS) and not is_walked(node, parents[node]):
            self.fault("L23", name, node)
        if called in ("set", "frozenset") and not is_set_in_its_place(node, parents):
            self.fault("L24", name, node)
        if method in CHANGING and getattr(node.func.value, "id", None) in self.tops[name]:
            self.fault("L15", name, node)
        if called == "isinstance":
            kinds = node.args[1].elts if isinstance(node.args[1], ast.Tuple) else node.args[1:]
            if not all(isinstance(kind, ast.Name) and kind.id in KINDS | set(self.tops[name]) | ERROR_BASES for kind in kinds):
                self.fault("L22", name, node)

    def look_at_own_name(self, name, node, parents):
        if node.id in NAMES_OUT:
            self.fault("L27" if node.id == "chr" else "L17", name, node)
        if node.id in self.classes and not is_class_in_its_place(node, parents):
            self.fault("L18", name, node)
        if node.id not in OWN_NAMES:
            return
        above = parents[node]
        if isinstance(above, ast.Tuple):
            above = parents[above]
        fine = isinstance(above, (ast.ClassDef, ast.ExceptHandler)) or isinstance(above, ast.keyword) and node.id in KEYS
        if isinstance(above, ast.Call):
            fine = above.func is node or getattr(above.func, "id", None) == "isinstance"
        if not fine:
            self.fault("L22", name, node)

    def look_at_attribute(self, name, node, parents):
        if node.attr in NAMES_OUT:
            self.fault("L17", name, node)
        if node.attr.startswith("_") and node.attr != "__init__":
            self.fault("L12", name, node)
        if node.attr not in OWN_METHODS | self.methods | self.values | {"__init__"}:
            self.fault("L25", name, node)
        if isinstance(node.ctx, ast.Store):
            if node.attr in OWN_ATTRIBUTES - VALUE_NAMES:
                self.fault("L26", name, node)
            if getattr(node.value, "id", None) in self.tops[name]:
                self.fault("L18", name, node)
        above = parents[node]
        called = isinstance(above, ast.Call) and above.func is node or isinstance(above, ast.keyword) and above.arg == "key"
        if node.attr not in self.values and not called:
            self.fault("L25", name, node)


def defs_in(node):
    return [part for part in node.body if isinstance(part, ast.FunctionDef)]


def top_names(tree):
    """The names of a file's top, each with whether the file itself defines it."""
    found = {}
    for node in tree.body:
        if isinstance(node, (ast.FunctionDef, ast.ClassDef)):
            found[node.name] = True
        elif isinstance(node, ast.Assign) and isinstance(node.targets[0], ast.Name):
            found[node.targets[0].id] = True
        elif isinstance(node, ast.ImportFrom):
            found.update({part.asname or part.name: False for part in node.names})
    return found


def is_remark(node):
    return isinstance(node, ast.Expr) and isinstance(node.value, ast.Constant) and isinstance(node.value.value, str)


def is_plain(node):
    if isinstance(node, (ast.List, ast.Tuple)):
        return all(is_plain(part) for part in node.elts)
    if isinstance(node, ast.Dict):
        return all(is_plain(part) for part in node.keys + node.values)
    if isinstance(node, ast.UnaryOp):
        return isinstance(node.operand, ast.Constant)
    return isinstance(node, (ast.Constant, ast.Name))


def changes_what_it_walks(loop):
    walked = loop.iter
    while isinstance(walked, ast.Call) and walked.args and getattr(walked.func, "id", None) in WALKED - {"range"}:
        walked = walked.args[0]
    if isinstance(walked, ast.Call) and getattr(walked.func, "attr", None) in WALKED_METHODS:
        walked = walked.func.value
    changed = []
    for node in [part for row in loop.body for part in ast.walk(row)]:
        if isinstance(node, ast.Subscript) and isinstance(node.ctx, ast.Store):
            changed.append(node.value)
        if isinstance(node, ast.Call) and getattr(node.func, "attr", None) in CHANGING:
            changed.append(node.func.value)
    return ast.unparse(walked) in [ast.unparse(node) for node in changed]


def is_class_in_its_place(node, parents):
    above = parents[node]
    if isinstance(above, ast.Tuple):
        above = parents[above]
    if isinstance(above, ast.Call):
        return above.func is node or getattr(above.func, "id", None) == "isinstance" and node is not above.args[0]
    return isinstance(above, (ast.ClassDef, ast.ExceptHandler)) or getattr(above, "attr", None) == "__init__"


def is_walked(node, above):
    if isinstance(above, (ast.For, ast.comprehension)):
        return above.iter is node
    if not isinstance(above, ast.Call) or above.args[:1] != [node]:
        return False
    if getattr(above.func, "attr", None) == "join":
        return isinstance(above.func.value, ast.Constant)
    called = getattr(above.func, "id", None)
    return called in WALKERS and (called not in ("min", "max") or len(above.args) == 1)


def is_set_in_its_place(node, parents):
    above = parents[node]
    while isinstance(above, ast.BinOp) and isinstance(above.op, (ast.Sub, ast.BitAnd, ast.BitOr, ast.BitXor)):
        above = parents[above]
    if isinstance(above, ast.Compare):
        return all(isinstance(sign, (ast.In, ast.NotIn, ast.Eq, ast.NotEq)) for sign in above.ops)
    return isinstance(above, ast.Call) and getattr(above.func, "id", None) in ("sorted", "len") and not above.keywords


def rules_broken(source, name="some"):
    other = "def told(x):\n    return x\n"
    return {rule for rule, _, _ in Look({"__init__": "", "other": other, name: source}).faults}


class PackageTest(unittest.TestCase):
    def test_only_its_own_files_lie_in_the_package(self):
        lying = [path for path in PACKAGE.iterdir() if path.name != "__pycache__"]
        self.assertEqual([path.name for path in lying if not path.is_file() or path.suffix != ".py"], [])
        self.assertIn("__init__.py", [path.name for path in lying])

    def test_it_keeps_to_its_part_of_the_language(self):
        sources = {path.stem: path.read_text(encoding="utf-8") for path in PACKAGE.glob("*.py")}
        self.assertLessEqual(MODULES, set(sources))
        self.assertEqual(Look(sources).faults, [])


class LookTest(unittest.TestCase):
    """The look itself: what is fine is let through, and what is not is seen."""

    def test_what_is_fine(self):
        fine = (
            '"""Remark."""\n\nfrom turnbase.other import told\n\nNAMES = ("a", "b")\nSIZES = {"a": 1}\n\n\n'
            "class Wrong(ValueError):\n    pass\n\n\nclass Box:\n    def __init__(self, size=3):\n        self.size = size\n\n"
            "    def grown(self, by):\n        return Box(self.size + by)\n\n\n"
            "class Large(Box):\n    def __init__(self, count):\n        Box.__init__(self, 99)\n        self.count = count\n\n"
            "    def add(self, thing):\n        return isinstance(thing, (Box, Large))\n\n\n"
            "def worth(things):\n    found = {}\n    for k, thing in enumerate(things):\n        found[thing] = k ** 2\n"
            "    if len(set(things)) != len(found) or things is None:\n        raise Wrong(f\"none of {things}\")\n"
            "    return [told(k) for k in sorted(found.items(), key=lambda pair: pair[1]) if k in SIZES]\n"
        )
        self.assertEqual(rules_broken(fine), set())

    def test_what_is_not(self):
        inner = {
            "L6": ("assert x", "del x", "a = b = x", "a, b = x", "with x: pass", "global x", "while x:\n  x = 0\n else:\n  x = 1", "x", '"words"'),
            "L7": ("y = 1.5", "y = x / 2", "y = b'x'", "y = {k for k in x}", "y = sum(k for k in x)", "y = [*x]", "y = f'{x + 1}'",
                   "y = [a for a in x for b in a]", "y = (z := x)"),
            "L8": ("y = map(x, x)", "y = hash(x)", "print(x)", "y = filter"),
            "L12": ("y = 0\n _z = 1", "for _ in x:\n  pass"),
            "L13": ("y = [lambda a: a, lambda a: 1]",),
            "L15": ("len = x", "for next in x:\n  pass", "TOP.append(x)", "TOP[0] = x"),
            "L17": ("y = getattr(x, 'a')", "y = x.format(1)", "y = 'the type'", "y = 0  # an enum", "y = 'dataclasses'"),
            "L19": ("try:\n  y = 1\n except Exception:\n  pass", "try:\n  y = 1\n except TypeError:\n  pass", "try:\n  y = 1\n except:\n  pass"),
            "L20": ("y = x is 3", "y = x is not x"),
            "L22": ("y = [len, x]", "y = sorted(x, key=repr)", "y = int(x, base=2)", "y = isinstance(x, set)"),
            "L23": ("y = range(3)", "y = zip(x, x)", "y = x.items()", "y = list(reversed(range(3)))", "y = min(range(3), 1)",
                    "for y in x:\n  x.append(y)", "for y in x.z:\n  x.z[0] = y", "for k, y in enumerate(x):\n  x.pop()",
                    "for k, y in x.items():\n  x[k] = y"),
            "L24": ("y = set(x)", "for y in set(x):\n  pass", "y = {1, 2}", "y = list(set(x))"),
            "L25": ("x.sort()", "y = x.title()", "y = x.append"),
            "L27": ("y = 2 ** x", "y = 'a%b'", "y = chr(x)", "y = '\\x00'"),
        }
        for rule, bodies in inner.items():
            for body in bodies:
                self.assertIn(rule, rules_broken(f"TOP = [1]\n\n\ndef f(x):\n {body}\n"), body)

    def test_what_is_not_at_the_top(self):
        outer = {
            "L2": ("from turnbase import other", "from .other import told", "from turnbase.other import *", "from math import gcd"),
            "L3": ("x = len([])", "print(1)", "if True:\n    x = 1", "x = [k for k in (1, 2)]"),
            "L4": ("def f(*x):\n    pass", "def f(**x):\n    pass", "def f(*, x):\n    pass", "def f(x=len([])):\n    pass"),
            "L5": ("class A:\n    x = 1", "class A(int):\n    pass", "class A(ValueError, KeyError):\n    pass", 'class A:\n    "words"'),
            "L10": ("def f():\n" + "    pass\n" * 40, "x = 1\n" + "\n" * 401, "x = '" + "a" * 120 + "'"),
            "L14": ("x = '\t'", "x = '\u00e4'"),
            "L15": ("x = 1\nx = 2", "x = [[1]]", "x = {'a': [1]}", "from turnbase.other import told\ndef f(told):\n    return told"),
            "L16": ("from turnbase.other import nothing",),
            "L18": ("class A:\n    def f(self):\n        pass\n    def f(self):\n        pass", "class A:\n    def f(self):\n        self.f = 1",
                    "class A:\n    pass\ndef f(x):\n    return [A]", "class A:\n    pass\ndef f(x):\n    A.x = 1",
                    "class A:\n    pass\ndef f(x):\n    return f(A)"),
            "L26": ("class A:\n    def title(self):\n        pass", "class A:\n    def __init__(self):\n        self.items = []",
                    "class A:\n    def union(self):\n        pass", "class A:\n    def __init__(self):\n        self.real = 1"),
            "L28": ("class A:\n    def __init__(self):\n        return None", "class A:\n    def __len__(self):\n        return 3"),
            "L21": ("def f(x: int):\n    pass", "def f() -> int:\n    pass"),
        }
        for rule, sources in outer.items():
            for source in sources:
                self.assertIn(rule, rules_broken(source + "\n"), source)
        self.assertIn("L6", rules_broken("import math\n"))

    def test_files(self):
        self.assertIn("L14", rules_broken("", "Some"))
        self.assertIn("L14", rules_broken("", "range"))
        circle = {"__init__": "", "a": "from turnbase.b import f\nX = 1\n", "b": "from turnbase.a import X\ndef f():\n    return X\n"}
        self.assertIn("L16", {rule for rule, _, _ in Look(circle).faults})
        above = {"__init__": "from turnbase.a import X\n", "a": "X = 1\n"}
        self.assertIn("L16", {rule for rule, _, _ in Look(above).faults})
