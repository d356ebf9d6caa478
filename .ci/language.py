"""Looks through the package for code outside the part of Python that it keeps to.

It sees the rules of ../shared/LANGUAGE.md that can be seen in a file's text and tree, not all of them.
"""

import ast
import builtins
import os
import re
import sys

NODES = (
    "Module FunctionDef arguments arg ClassDef Return Assign AugAssign For While If Raise Try ExceptHandler ImportFrom "
    "alias Expr Pass Break Continue BoolOp And Or BinOp Add Sub Mult FloorDiv Mod Pow LShift RShift BitOr BitXor "
    "BitAnd UnaryOp Invert Not UAdd USub Lambda IfExp Dict ListComp comprehension Compare Eq NotEq Lt LtE Gt GtE Is "
    "IsNot In NotIn Call keyword FormattedValue JoinedStr Constant Attribute Subscript Slice Name Load Store List Tuple"
).split()
OWN_NAMES = (
    "len range enumerate zip min max sum abs sorted reversed int str bool list tuple dict set frozenset isinstance ord "
    "repr any all divmod Exception ValueError TypeError KeyError IndexError LookupError ZeroDivisionError "
    "ArithmeticError OverflowError RuntimeError NotImplementedError AttributeError StopIteration"
).split()
METHODS = (
    "append clear copy count endswith extend find get index insert isalnum isalpha isdigit islower isspace isupper "
    "items join keys ljust lower lstrip partition pop remove replace reverse rfind rjust rpartition rsplit rstrip "
    "setdefault split splitlines startswith strip update upper values zfill bit_length __init__"
).split()
WORDS = re.compile(
    r"\b(type|typing|typing_extensions|enum|Enum|IntEnum|StrEnum|Flag|IntFlag|Generic|Protocol|ABC|ABCMeta|namedtuple"
    r"|NamedTuple|TypedDict|TYPE_CHECKING|abstractmethod)\b|dataclass|overload|contextmanager"
)
UNUSED = (
    "register mro elements open input version_info with_traceback add_note attrgetter breakpoint builtins compile "
    "copyright credits delattr dir eval exec exit gc getattr globals hasattr help id importlib license locals "
    "methodcaller os quit setattr super vars sys format format_map chr print"
).split()
TOP = (ast.ImportFrom, ast.FunctionDef, ast.ClassDef, ast.Assign)
WALKED = ("zip", "enumerate", "reversed", "range", "items", "keys", "values")
WALKERS = ("list", "tuple", "dict", "sorted", "sum", "any", "all", "enumerate", "zip", "min", "max", "join")


def called(node):
    if not isinstance(node, ast.Call):
        return None
    return node.func.id if isinstance(node.func, ast.Name) else getattr(node.func, "attr", None)


class Look:
    def __init__(self, package):
        self.package = package
        self.faults = []
        self.trees = {}
        self.methods = set(METHODS)

    def fault(self, path, line, rule, words):
        self.faults.append(f"{path}:{line}: {rule}: {words}")

    def read(self):
        for place, folders, files in os.walk(self.package):
            folders[:] = sorted(set(folders) - {"__pycache__"})
            for name in sorted(files):
                path = os.path.join(place, name)
                taken = name != "__init__.py" and hasattr(builtins, name[:-3])
                if taken or not re.fullmatch(r"[a-z0-9_]+\.py", name):
                    self.fault(path, 0, "L1", "file name")
                    continue
                with open(path, encoding="utf-8", newline="") as file:
                    text = file.read()
                self.look_at_text(path, text)
                self.trees[path] = ast.parse(text)
        for tree in self.trees.values():
            for node in ast.walk(tree):
                if isinstance(node, ast.ClassDef):
                    self.methods |= {inner.name for inner in node.body if isinstance(inner, ast.FunctionDef)}

    def look_at_text(self, path, text):
        lines = text.split("\n")
        if len(lines) > 401:
            self.fault(path, 401, "L10", "file too long")
        for at, line in enumerate(lines, start=1):
            if len(line) > 120:
                self.fault(path, at, "L10", "line too long")
            if re.search(r"[^ -~]", line):
                self.fault(path, at, "L14", "sign")
            if WORDS.search(line):
                self.fault(path, at, "L17", "word")

    def look(self):
        self.read()
        for path, tree in self.trees.items():
            self.look_at_top(path, tree)
            parents = {inner: node for node in ast.walk(tree) for inner in ast.iter_child_nodes(node)}
            for node in ast.walk(tree):
                line = getattr(node, "lineno", 0)
                for rule, words in self.faults_of_node(node, parents.get(node)):
                    self.fault(path, line, rule, words)

    def bound_at_top(self, module):
        path = module.replace(".", "/") + ".py"
        names = []
        for node in self.trees[path].body if path in self.trees else []:
            if isinstance(node, (ast.FunctionDef, ast.ClassDef)):
                names.append(node.name)
            elif isinstance(node, ast.Assign):
                names.extend([target.id for target in node.targets if isinstance(target, ast.Name)])
        return names

    def look_at_top(self, path, tree):
        for at, node in enumerate(tree.body):
            docstring = at == 0 and isinstance(node, ast.Expr) and isinstance(node.value, ast.Constant)
            if not docstring and not isinstance(node, TOP):
                self.fault(path, node.lineno, "L3", "top of a module")
            if isinstance(node, ast.ImportFrom):
                known = self.bound_at_top(node.module or "")
                for alias in node.names:
                    if node.level or alias.name not in known:
                        self.fault(path, node.lineno, "L16", f"import of {alias.name}")
        names = self.bound_at_top(path[:-3])
        for name in sorted(set(names)):
            if names.count(name) > 1:
                self.fault(path, 0, "L15", f"{name} bound twice")
        self.look_at_locals(path, tree)

    def look_at_locals(self, path, tree):
        taken = [alias.name for node in tree.body if isinstance(node, ast.ImportFrom) for alias in node.names]
        taken.extend([node.name for node in tree.body if isinstance(node, ast.ClassDef)])
        for node in ast.walk(tree):
            name = node.arg if isinstance(node, ast.arg) else getattr(node, "id", None)
            if name in taken and not isinstance(getattr(node, "ctx", None), ast.Load):
                self.fault(path, node.lineno, "L15", f"{name} bound anew")

    def faults_of_node(self, node, parent):
        kind = node.__class__.__name__
        if kind not in NODES:
            yield "L6", kind
        for name in [getattr(node, field, None) for field in ("id", "attr", "arg", "name")]:
            if isinstance(name, str) and (name in UNUSED or name.startswith("_") and name != "__init__"):
                yield "L17", name
        if isinstance(node, ast.Name):
            if hasattr(builtins, node.id) and (node.id not in OWN_NAMES or isinstance(node.ctx, ast.Store)):
                yield "L8", node.id
        if isinstance(node, ast.arg) and hasattr(builtins, node.arg):
            yield "L15", node.arg
        if isinstance(node, ast.FunctionDef) and node.end_lineno - node.lineno >= 40:
            yield "L10", "function too long"
        if isinstance(node, (ast.FunctionDef, ast.ClassDef)) and node.decorator_list:
            yield "L4", "decorator"
        if isinstance(node, ast.arguments) and (node.vararg or node.kwarg or node.kwonlyargs or node.posonlyargs):
            yield "L4", "parameters"
        if isinstance(node, ast.ClassDef):
            if len(node.bases) > 1 or not all(isinstance(inner, (ast.FunctionDef, ast.Pass)) for inner in node.body):
                yield "L5", "class"
        yield from self.faults_of_form(node, parent)

    def faults_of_form(self, node, parent):
        if isinstance(node, ast.Assign) and len(node.targets) > 1:
            yield "L6", "targets"
        if isinstance(node, (ast.For, ast.While)) and node.orelse or isinstance(node, ast.Try) and node.finalbody:
            yield "L6", "else or finally"
        if isinstance(node, ast.Expr) and not isinstance(node.value, (ast.Call, ast.Constant)):
            yield "L6", "value by itself"
        if isinstance(node, ast.ListComp) and (len(node.generators) > 1 or len(node.generators[0].ifs) > 1):
            yield "L7", "comprehension"
        if isinstance(node, ast.FormattedValue) and not isinstance(node.value, ast.Name):
            yield "L7", "f-string"
        if isinstance(node, ast.Constant):
            if isinstance(node.value, (float, bytes, complex)) or node.value is ...:
                yield "L7", "value"
            if isinstance(node.value, str) and "%" in node.value:
                yield "L27", "percent sign"
        if isinstance(node, ast.ExceptHandler):
            if node.type is None or getattr(node.type, "id", "") in ("Exception", "TypeError"):
                yield "L19", "except"
        if isinstance(node, ast.Compare):
            for operator, right in zip(node.ops, node.comparators):
                plain = isinstance(right, ast.Constant) and (right.value is None or isinstance(right.value, bool))
                if isinstance(operator, (ast.Is, ast.IsNot)) and not plain:
                    yield "L20", "is"
        if isinstance(node, ast.Call):
            yield from self.faults_of_call(node, parent)

    def faults_of_call(self, node, parent):
        name = called(node)
        if isinstance(node.func, ast.Attribute) and name not in self.methods:
            yield "L25", name
        if name in ("set", "frozenset"):
            if called(parent) not in ("sorted", "len") and not isinstance(parent, (ast.Compare, ast.BinOp)):
                yield "L24", "set kept"
        if name in WALKED:
            walked = isinstance(parent, (ast.For, ast.comprehension)) and parent.iter is node
            if not walked and called(parent) not in WALKERS:
                yield "L23", f"{name} kept"


def main():
    look = Look(sys.argv[1])
    look.look()
    for words in look.faults:
        print(words)
    return 1 if look.faults or not look.trees else 0


sys.exit(main())
