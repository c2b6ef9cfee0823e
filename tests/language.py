"""Looks through the package's files for what the rules of the language part (L1 to L28) rule out.

Not all that the rules say can be seen so; what is found is told as (rule, file, row)."""

import ast
import builtins
import re

ALLOWED_BUILTINS = set(
    "len range enumerate zip min max sum abs sorted reversed int str bool list tuple dict set frozenset isinstance ord "
    "repr any all divmod Exception ValueError TypeError KeyError IndexError LookupError ZeroDivisionError "
    "ArithmeticError OverflowError RuntimeError NotImplementedError AttributeError StopIteration".split()
)
ERROR_BASES = set(
    "Exception ValueError TypeError KeyError IndexError LookupError ZeroDivisionError ArithmeticError OverflowError "
    "RuntimeError NotImplementedError".split()
)
METHODS = set(
    "append clear copy count endswith extend find get index insert isalnum isalpha isdigit islower isspace isupper items "
    "join keys ljust lower lstrip partition pop remove replace reverse rfind rjust rpartition rsplit rstrip setdefault "
    "split splitlines startswith strip update upper values zfill bit_length".split()
)
FREE_VALUES = set("count index title find get join lower upper split strip copy add".split())
DUNDERS = {"__init__", "__eq__", "__repr__", "__str__", "__len__"}
NEVER = {"register", "mro", "elements", "open", "input", "version_info", "with_traceback", "add_note", "format",
         "format_map"}
NEVER_NAMES = set(
    "attrgetter breakpoint builtins compile copyright credits delattr dir eval exec exit gc getattr globals hasattr help "
    "id importlib license locals methodcaller os quit setattr super type vars sys chr print".split()
)
NEVER_WORDS = re.compile(
    r"\b(type|typing|typing_extensions|enum|Enum|IntEnum|StrEnum|Flag|IntFlag|Generic|Protocol|ABC|ABCMeta|namedtuple"
    r"|NamedTuple|TypedDict|TYPE_CHECKING|abstractmethod)\b|dataclass|overload|contextmanager"
)
FILE_NAME = re.compile(r"[a-z][a-z0-9_]*\.py|__init__\.py|__main__\.py")
KEYWORDS = {"sorted": {"key", "reverse"}, "min": {"key", "default"}, "max": {"key", "default"}, "sum": {"start"},
            "enumerate": {"start"}, "zip": {"strict"}}
STATEMENTS = (
    ast.Assign, ast.AugAssign, ast.If, ast.While, ast.For, ast.Return, ast.Break, ast.Continue, ast.Pass, ast.Raise,
    ast.Try, ast.ExceptHandler, ast.Expr, ast.FunctionDef, ast.ClassDef, ast.ImportFrom,
)
EXPRESSIONS = (
    ast.Constant, ast.List, ast.Tuple, ast.Dict, ast.BinOp, ast.UnaryOp, ast.BoolOp, ast.Compare, ast.IfExp, ast.Call,
    ast.Attribute, ast.Subscript, ast.Slice, ast.ListComp, ast.JoinedStr, ast.FormattedValue, ast.Name, ast.Lambda,
)
HELPERS = (
    ast.Module, ast.arguments, ast.arg, ast.keyword, ast.alias, ast.comprehension, ast.expr_context, ast.boolop,
    ast.operator, ast.unaryop, ast.cmpop,
)
WALKED = {"zip", "enumerate", "reversed", "range"}
WALKED_METHODS = {"items", "keys", "values"}
WALKERS = {"list", "tuple", "dict", "sorted", "sum", "any", "all", "enumerate", "zip", "min", "max"}
OWN_ATTRIBUTES = set()
for own in (str, int, list, dict, set, bytes, tuple):
    OWN_ATTRIBUTES.update(name for name in dir(own) if not name.startswith("__"))


def is_plain(node, functions):
    if isinstance(node, ast.Constant):
        return True
    if isinstance(node, ast.UnaryOp):
        return isinstance(node.op, ast.USub) and isinstance(node.operand, ast.Constant)
    if isinstance(node, (ast.List, ast.Tuple)):
        return all(is_plain(one, functions) for one in node.elts)
    if isinstance(node, ast.Dict):
        return all(key is not None and is_plain(key, functions) for key in node.keys) and all(
            is_plain(value, functions) for value in node.values)
    return isinstance(node, ast.Name) and node.id in functions


class Looker:
    def __init__(self, name, source, package):
        self.name = name
        self.source = source
        self.package = package
        self.faults = []
        self.tree = ast.parse(source)
        self.parents = {}
        for node in ast.walk(self.tree):
            for child in ast.iter_child_nodes(node):
                self.parents[child] = node

    def fault(self, rule, node):
        self.faults.append((rule, self.name, getattr(node, "lineno", node)))

    def look(self):
        self.look_at_signs()
        self.look_at_top()
        for node in ast.walk(self.tree):
            self.look_at_kind(node)
            for kind, look in (
                (ast.FunctionDef, self.look_at_function), (ast.ClassDef, self.look_at_class),
                (ast.ImportFrom, self.look_at_import), (ast.Call, self.look_at_call), (ast.Name, self.look_at_name),
                (ast.Attribute, self.look_at_attribute), (ast.Constant, self.look_at_constant),
                (ast.Compare, self.look_at_comparison), (ast.arguments, self.look_at_arguments),
            ):
                if isinstance(node, kind):
                    look(node)
        return self.faults

    def look_at_signs(self):
        if not FILE_NAME.fullmatch(self.name):
            self.fault("L14", 0)
        rows = self.source.split("\n")
        if len(rows) > 401:
            self.fault("L10", len(rows))
        for at, row in enumerate(rows, start=1):
            if len(row) > 120:
                self.fault("L10", at)
            if any(not " " <= sign <= "~" for sign in row):
                self.fault("L14", at)
            if NEVER_WORDS.search(row):
                self.fault("L17", at)

    def look_at_top(self):
        bound, functions = [], []
        for at, node in enumerate(self.tree.body):
            if isinstance(node, ast.FunctionDef):
                functions.append(node.name)
                bound.append(node.name)
            elif isinstance(node, ast.ClassDef):
                bound.append(node.name)
            elif isinstance(node, ast.ImportFrom):
                bound.extend(alias.asname or alias.name for alias in node.names)
            elif isinstance(node, ast.Assign) and isinstance(node.targets[0], ast.Name):
                bound.append(node.targets[0].id)
                if not is_plain(node.value, functions):
                    self.fault("L3", node)
                inner = [one for one in ast.walk(node.value) if isinstance(one, (ast.List, ast.Dict))]
                if len(inner) > 1 or inner and inner[0] is not node.value:
                    self.fault("L15", node)
            elif not (at == 0 and isinstance(node, ast.Expr) and isinstance(node.value, ast.Constant)):
                self.fault("L3", node)
        for name in set(bound):
            if bound.count(name) > 1:
                self.fault("L15", 0)
        self.bound = bound

    def look_at_kind(self, node):
        if not isinstance(node, STATEMENTS + EXPRESSIONS + HELPERS):
            self.fault("L6", node)
        if isinstance(node, (ast.For, ast.While)) and node.orelse:
            self.fault("L6", node)
        if isinstance(node, ast.Try) and node.finalbody:
            self.fault("L6", node)
        if isinstance(node, ast.Assign) and len(node.targets) > 1:
            self.fault("L6", node)
        if isinstance(node, ast.Expr) and not isinstance(node.value, ast.Call) and node is not self.tree.body[0]:
            self.fault("L6", node)
        if isinstance(node, (ast.Div, ast.MatMult)):
            self.fault("L7", 0)
        if isinstance(node, ast.BinOp) and isinstance(node.op, ast.Pow) and not isinstance(node.right, ast.Constant):
            self.fault("L27", node)
        if isinstance(node, ast.ListComp) and (len(node.generators) > 1 or len(node.generators[0].ifs) > 1):
            self.fault("L7", node)
        if isinstance(node, ast.FormattedValue):
            if not isinstance(node.value, ast.Name) or node.format_spec or node.conversion not in (-1, ord("r")):
                self.fault("L7", node)
        if isinstance(node, ast.ExceptHandler):
            caught = node.type.elts if isinstance(node.type, ast.Tuple) else [node.type]
            if any(one is None or getattr(one, "id", "") in ("Exception", "TypeError") for one in caught):
                self.fault("L19", node)

    def look_at_function(self, node):
        if node.decorator_list:
            self.fault("L4", node)
        if node.end_lineno - node.lineno + 1 > 40:
            self.fault("L10", node)
        if node.returns:
            self.fault("L21", node)
        if node.name.startswith("_") and node.name not in DUNDERS:
            self.fault("L12", node)
        if hasattr(builtins, node.name) and not isinstance(self.parents[node], ast.ClassDef):
            self.fault("L8", node)

    def look_at_arguments(self, node):
        if node.vararg or node.kwarg or node.kwonlyargs or node.posonlyargs:
            self.fault("L4", self.parents[node])
        if not all(is_plain(default, ()) for default in node.defaults):
            self.fault("L4", self.parents[node])
        for argument in node.args:
            self.look_at_local(argument.arg, argument)
            if argument.annotation:
                self.fault("L21", argument)

    def look_at_local(self, name, node):
        if name.startswith("_"):
            self.fault("L12", node)
        if hasattr(builtins, name):
            self.fault("L15", node)
        classes = [one.name for one in self.tree.body if isinstance(one, ast.ClassDef)]
        imports = [alias.name for one in self.tree.body if isinstance(one, ast.ImportFrom) for alias in one.names]
        if name in classes + imports:
            self.fault("L15", node)

    def look_at_class(self, node):
        if self.parents[node] is not self.tree:
            self.fault("L15", node)
        if node.decorator_list or node.keywords or len(node.bases) > 1:
            self.fault("L5", node)
        for base in node.bases:
            if not isinstance(base, ast.Name) or base.id not in ERROR_BASES | self.package.classes:
                self.fault("L5", node)
        methods = [one.name for one in node.body if isinstance(one, ast.FunctionDef)]
        if len(methods) != len(set(methods)):
            self.fault("L18", node)
        for one in node.body:
            if not isinstance(one, (ast.FunctionDef, ast.Pass)):
                self.fault("L5", one)

    def look_at_import(self, node):
        drawn = (node.module or "").split(".")
        if self.parents[node] is not self.tree or node.level or len(drawn) != 2 or drawn[0] != self.package.name:
            self.fault("L2", node)
            return
        for alias in node.names:
            if alias.asname or alias.name not in self.package.defined.get(drawn[1], ()):
                self.fault("L16", node)

    def look_at_call(self, node):
        called = node.func
        if any(isinstance(argument, ast.Starred) for argument in node.args):
            self.fault("L7", node)
        if isinstance(called, ast.Name) and hasattr(builtins, called.id):
            allowed = KEYWORDS.get(called.id, set())
            if any(keyword.arg not in allowed for keyword in node.keywords):
                self.fault("L22", node)
        if isinstance(called, ast.Attribute):
            if called.attr not in METHODS | self.package.methods:
                self.fault("L25", node)
            if called.attr in METHODS - self.package.methods and node.keywords:
                self.fault("L22", node)
        self.look_at_walk(node)

    def look_at_walk(self, node):
        called = node.func
        walked = isinstance(called, ast.Name) and called.id in WALKED
        walked = walked or isinstance(called, ast.Attribute) and called.attr in WALKED_METHODS
        kept_set = isinstance(called, ast.Name) and called.id in ("set", "frozenset")
        parent = self.parents[node]
        if walked and isinstance(parent, (ast.For, ast.comprehension)) and parent.iter is node:
            return
        if walked and isinstance(parent, ast.Call):
            if isinstance(parent.func, ast.Name) and parent.func.id in WALKERS:
                return
            if isinstance(parent.func, ast.Attribute) and parent.func.attr == "join":
                return
        if walked:
            self.fault("L23", node)
        if kept_set and not isinstance(parent, (ast.Compare, ast.BinOp)):
            if not (isinstance(parent, ast.Call) and getattr(parent.func, "id", "") in ("sorted", "len")):
                self.fault("L24", node)

    def look_at_name(self, node):
        if node.id.startswith("_"):
            self.fault("L12", node)
        if node.id in NEVER | NEVER_NAMES:
            self.fault("L17", node)
        if isinstance(node.ctx, ast.Store) and self.parents.get(node) not in self.tree.body:
            self.look_at_local(node.id, node)
        if isinstance(node.ctx, ast.Load) and hasattr(builtins, node.id) and node.id not in ALLOWED_BUILTINS:
            self.fault("L8", node)
        if isinstance(node.ctx, ast.Store) and hasattr(builtins, node.id):
            self.fault("L8", node)

    def look_at_attribute(self, node):
        if node.attr in NEVER or node.attr.startswith("_") and node.attr != "__init__":
            self.fault("L17", node)
        if isinstance(node.ctx, ast.Store) and node.attr in OWN_ATTRIBUTES - FREE_VALUES:
            self.fault("L26", node)

    def look_at_constant(self, node):
        if node.value is not None and not isinstance(node.value, (bool, int, str)):
            self.fault("L7", node)
        if isinstance(node.value, str) and "%" in node.value:
            self.fault("L27", node)

    def look_at_comparison(self, node):
        sides = [node.left] + node.comparators
        for at, operator in enumerate(node.ops):
            if isinstance(operator, (ast.Is, ast.IsNot)):
                if not any(isinstance(side, ast.Constant) and side.value in (None, True, False)
                           and not isinstance(side.value, (str, float)) for side in sides[at:at + 2]):
                    self.fault("L20", node)


class Package:
    """What the files of a package, a dict from their names to their texts, define together."""

    def __init__(self, name, files):
        self.name = name
        self.files = files
        self.defined, self.classes, self.methods, self.values, self.drawn = {}, set(), set(), set(), {}
        for file, source in files.items():
            self.gather(file.removesuffix(".py"), ast.parse(source))

    def gather(self, file, tree):
        self.defined[file] = [one.name for one in tree.body if isinstance(one, (ast.FunctionDef, ast.ClassDef))]
        self.defined[file] += [one.targets[0].id for one in tree.body if isinstance(one, ast.Assign)]
        self.drawn[file] = [(one.module or "").split(".")[-1] for one in tree.body if isinstance(one, ast.ImportFrom)]
        for node in ast.walk(tree):
            if isinstance(node, ast.ClassDef):
                self.classes.add(node.name)
                self.methods.update(one.name for one in node.body if isinstance(one, ast.FunctionDef))
            if isinstance(node, ast.Attribute) and isinstance(node.ctx, ast.Store):
                self.values.add(node.attr)

    def draws_from_itself(self, file):
        reached = list(self.drawn.get(file, ()))
        for other in reached:
            reached.extend(one for one in self.drawn.get(other, ()) if one not in reached)
        return file in reached

    def faults(self):
        found = []
        for file, source in self.files.items():
            found.extend(Looker(file, source, self).look())
            if self.draws_from_itself(file.removesuffix(".py")):
                found.append(("L16", file, 0))
        for name in sorted(self.methods & self.values):
            found.append(("L18", name, 0))
        for name in sorted((self.methods - DUNDERS) & (OWN_ATTRIBUTES - METHODS - {"add", "discard"})):
            found.append(("L26", name, 0))
        return found
