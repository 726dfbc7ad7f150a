"""Looks at the files of a package by the rules L1 to L28 of the part of Python that it keeps to.

faults_of takes a dict from file paths (within the package's folder) to their bytes, and tells a sorted
list of tuples (rule, path, line, words). Where a rule says "best none" (annotations, methods with two
underscores but __init__) or speaks of a file that the package does without (__main__.py), none is let by.
An assignment to several names at once is not let by either (L6, "one target").
"""

import ast
import builtins
import keyword
import os
import re

PACKAGE = "latewell"
OWN = set(dir(builtins))
FUNCTIONS = set(
    "len range enumerate zip min max sum abs sorted reversed int str bool list tuple dict set frozenset "
    "isinstance ord repr any all divmod".split()
)
ERRORS = set(
    "Exception ValueError TypeError KeyError IndexError LookupError ZeroDivisionError ArithmeticError "
    "OverflowError RuntimeError NotImplementedError AttributeError StopIteration".split()
)
KINDS = {"int", "str", "bool", "list", "tuple", "dict"}
METHODS = set(
    "append clear copy count endswith extend find get index insert isalnum isalpha isdigit islower isspace "
    "isupper items join keys ljust lower lstrip partition pop remove replace reverse rfind rjust rpartition "
    "rsplit rstrip setdefault split splitlines startswith strip update upper values zfill bit_length".split()
)
CHANGERS = set("append clear extend insert pop remove reverse setdefault update".split())
FREE_VALUES = set("count index title find get join lower upper split strip copy add".split())
TAKEN = set()
for kind in (str, int, list, dict, set, frozenset, bytes, tuple, bytearray):
    TAKEN |= set(dir(kind))
KEYS = {"len", "int", "str", "abs", "sum", "min", "max", "tuple"}
KEYWORDS = {
    "sorted": {"key", "reverse"},
    "min": {"key", "default"},
    "max": {"key", "default"},
    "sum": {"start"},
    "enumerate": {"start"},
    "zip": {"strict"},
}
NOWHERE = set("register mro elements open input version_info with_traceback add_note".split())
FRAMES = re.compile(r"(f|tb|co|gi|cr|ag)_[a-z]+$")
NOT_NAMES = set(
    "attrgetter breakpoint builtins compile copyright credits delattr dir eval exec exit gc getattr globals "
    "hasattr help id importlib license locals methodcaller os quit setattr super type vars sys".split()
)
WORDS = (
    "type typing typing_extensions enum Enum IntEnum StrEnum Flag IntFlag Generic Protocol ABC ABCMeta "
    "namedtuple NamedTuple TypedDict TYPE_CHECKING abstractmethod"
).split()
BAD_WORDS = re.compile(r"(?<!\w)(" + "|".join(WORDS) + r")(?!\w)|dataclass|overload|contextmanager")
FILES = re.compile(r"([a-z][a-z0-9_]*/)*([a-z][a-z0-9_]*|__init__)\.py$")
BAD_FILES = re.compile(r"(tests?|testing|test_.*|site|conftest|sitecustomize|usercustomize)$")
PLAIN = re.compile(r"[A-Za-z][A-Za-z0-9_]*$")
STATEMENTS = (
    ast.Assign, ast.AugAssign, ast.If, ast.While, ast.For, ast.Return, ast.Break, ast.Continue, ast.Pass,
    ast.Raise, ast.Try, ast.FunctionDef,
)
EXPRESSIONS = (
    ast.Constant, ast.List, ast.Tuple, ast.Dict, ast.Set, ast.BinOp, ast.UnaryOp, ast.Compare, ast.BoolOp,
    ast.IfExp, ast.Call, ast.Attribute, ast.Subscript, ast.Slice, ast.ListComp, ast.JoinedStr, ast.Lambda,
    ast.FormattedValue, ast.Name,
)
MADE_TO_WALK = {"zip", "enumerate", "reversed", "range"}
VIEWS = {"items", "keys", "values"}
WALKERS = {"list", "tuple", "dict", "sorted", "sum", "any", "all", "enumerate", "zip"}
READERS = WALKERS | {"len", "min", "max", "reversed"}


class Source:
    """A file of the package, with its tree, the parent of each node and its top's names."""

    def __init__(self, path, text):
        self.path = path
        self.text = text
        self.tree = ast.parse(text)
        self.nodes = list(ast.walk(self.tree))
        self.parent = {}
        for node in self.nodes:
            for child in ast.iter_child_nodes(node):
                self.parent[child] = node
        self.defs = [node for node in self.nodes if isinstance(node, ast.FunctionDef)]
        self.classes = [node for node in self.nodes if isinstance(node, ast.ClassDef)]
        self.calls = [node for node in self.nodes if isinstance(node, ast.Call)]
        self.imports = [node for node in self.nodes if isinstance(node, ast.ImportFrom)]
        self.module = path[:-3].replace("/", ".")
        self.module = PACKAGE if self.module == "__init__" else PACKAGE + "." + self.module

    def within(self, node, *kinds):
        """The nearest node of these kinds around a node, or None."""
        node = self.parent.get(node)
        while node is not None and not isinstance(node, kinds):
            node = self.parent.get(node)
        return node

    def top_names(self):
        names = []
        for node in self.tree.body:
            if isinstance(node, (ast.FunctionDef, ast.ClassDef)):
                names.append((node.name, node))
            elif isinstance(node, ast.Assign):
                names += [(target.id, node) for target in node.targets if isinstance(target, ast.Name)]
            elif isinstance(node, ast.ImportFrom):
                names += [(alias.asname or alias.name, node) for alias in node.names]
        return names

    def local_names(self):
        """All parameters and locals, as tuples (name, node)."""
        found = []
        for node in self.nodes:
            if isinstance(node, ast.arg):
                found.append((node.arg, node))
            elif isinstance(node, ast.Name) and isinstance(node.ctx, ast.Store):
                if self.within(node, ast.FunctionDef, ast.Lambda):
                    found.append((node.id, node))
            elif isinstance(node, ast.ExceptHandler) and node.name:
                found.append((node.name, node))
            elif isinstance(node, ast.FunctionDef) and self.within(node, ast.FunctionDef):
                found.append((node.name, node))
        return found


def called(node):
    """The plain name that a call calls, or None."""
    if isinstance(node, ast.Call) and isinstance(node.func, ast.Name):
        return node.func.id
    return None


def method_called(node):
    if isinstance(node, ast.Call) and isinstance(node.func, ast.Attribute):
        return node.func.attr
    return None


def is_docstring(node):
    return isinstance(node, ast.Expr) and isinstance(node.value, ast.Constant) and isinstance(node.value.value, str)


def is_plain_value(node, names=()):
    if isinstance(node, ast.Constant):
        return node.value is None or isinstance(node.value, (bool, int, str))
    if isinstance(node, ast.UnaryOp) and isinstance(node.op, ast.USub):
        return is_plain_value(node.operand)
    if isinstance(node, (ast.List, ast.Tuple)):
        return all(is_plain_value(item, names) for item in node.elts)
    if isinstance(node, ast.Dict):
        return all(item is not None and is_plain_value(item, names) for item in node.keys + node.values)
    return isinstance(node, ast.Name) and node.id in names


def is_set(node):
    return isinstance(node, ast.Set) or called(node) in ("set", "frozenset")


def package_classes(sources):
    return {node.name for source in sources for node in source.classes}


def own_methods(sources):
    return {
        item.name for source in sources for node in source.classes for item in node.body
        if isinstance(item, ast.FunctionDef)
    }


def own_values(sources):
    return {
        node.attr for source in sources for node in source.nodes
        if isinstance(node, ast.Attribute) and isinstance(node.ctx, ast.Store)
    }


def rule_2(source, sources):
    """Imports at the top, of the package's own modules, by their full names."""
    behind = False
    for node in source.tree.body:
        if isinstance(node, (ast.FunctionDef, ast.ClassDef, ast.Assign)):
            behind = True
        if isinstance(node, ast.ImportFrom) and behind:
            yield node, "an import behind something else"
    for node in source.nodes:
        if isinstance(node, ast.Import):
            yield node, "import without from"
    for node in source.imports:
        if source.parent[node] is not source.tree:
            yield node, "an import that is not at the top"
        whole = (node.module or "").split(".")
        future = node.module == "__future__" and [alias.name for alias in node.names] == ["annotations"]
        if node.level or not (future or (whole[0] == PACKAGE and len(whole) > 1)):
            yield node, "an import from elsewhere"
        if any(alias.name == "*" for alias in node.names) or "__main__" in whole:
            yield node, "an import of all, or of __main__"


def rule_3(source, sources):
    """The top of a module: a docstring, imports, functions, classes and plain values."""
    functions = set()
    for number, node in enumerate(source.tree.body):
        if isinstance(node, ast.FunctionDef):
            functions.add(node.name)
        elif isinstance(node, ast.Assign):
            plain = [isinstance(target, ast.Name) for target in node.targets]
            if plain != [True] or not is_plain_value(node.value, functions):
                yield node, "a top that is no plain value"
        elif not isinstance(node, (ast.ImportFrom, ast.Import, ast.ClassDef)) and not (
            number == 0 and is_docstring(node)
        ):
            yield node, "something done at the top"


def rule_4(source, sources):
    """Plain parameters with plain defaults; no decorator; what is read from around is not assigned."""
    for node in source.nodes:
        if not isinstance(node, (ast.FunctionDef, ast.Lambda)):
            continue
        args = node.args
        if args.vararg or args.kwarg or args.kwonlyargs or args.posonlyargs:
            yield node, "no plain parameters"
        if not all(is_plain_value(value) for value in args.defaults):
            yield node, "a default that is no plain value"
        if getattr(node, "decorator_list", None):
            yield node, "a decorator"
        around = source.within(node, ast.FunctionDef)
        if around is not None and isinstance(node, ast.FunctionDef):
            outer = {name.id for name in ast.walk(around) if isinstance(name, ast.Name)
                     and isinstance(name.ctx, ast.Store) and source.within(name, ast.FunctionDef) is around}
            outer |= {arg.arg for arg in around.args.args}
            for name in ast.walk(node):
                if isinstance(name, ast.Name) and isinstance(name.ctx, ast.Store) and name.id in outer:
                    yield name, "a name from around that is assigned"


def rule_5(source, sources):
    """Plain classes: methods alone, at most one base."""
    classes = package_classes(sources)
    for node in source.classes:
        if node.decorator_list or node.keywords or len(node.bases) > 1:
            yield node, "no plain class"
        for base in node.bases:
            if not isinstance(base, ast.Name) or base.id not in classes | ERRORS:
                yield node, "a base of another kind"
        for number, item in enumerate(node.body):
            if not isinstance(item, ast.FunctionDef) and not (number == 0 and is_docstring(item)):
                yield item, "a class body with something other than methods"


def rule_6(source, sources):
    """The statements that are there."""
    for node in source.nodes:
        if isinstance(node, ast.stmt) and source.within(node, ast.FunctionDef) is not None:
            inner = source.parent[node]
            first = isinstance(inner, ast.FunctionDef) and inner.body[0] is node
            doc = first and is_docstring(node)
            alone = isinstance(node, ast.Expr) and isinstance(node.value, ast.Call)
            if not isinstance(node, STATEMENTS) and not doc and not alone:
                yield node, "a statement that is not there"
        if isinstance(node, (ast.For, ast.While)) and node.orelse:
            yield node, "else behind a loop"
        if isinstance(node, ast.Try) and (node.finalbody or not node.handlers):
            yield node, "finally"
        if isinstance(node, ast.Assign) and (
            len(node.targets) > 1 or isinstance(node.targets[0], (ast.Tuple, ast.List))
        ):
            yield node, "more than one target"
        if isinstance(node, ast.FunctionDef) and len(node.body) == 1 and is_docstring(node.body[0]):
            yield node, "a def that does nothing"


def rule_7(source, sources):
    """The values and expressions that are there."""
    for node in source.nodes:
        if isinstance(node, ast.expr) and not isinstance(node, EXPRESSIONS):
            yield node, "an expression that is not there"
        if isinstance(node, ast.Constant) and not (node.value is None or isinstance(node.value, (bool, int, str))):
            yield node, "a value that is not there"
        if isinstance(node, (ast.Div, ast.MatMult)):
            yield source.parent[node], "an operator that is not there"
        if isinstance(node, ast.ListComp):
            if len(node.generators) != 1 or len(node.generators[0].ifs) > 1:
                yield node, "a list comprehension with too much"
        if isinstance(node, ast.FormattedValue):
            if not isinstance(node.value, ast.Name) or node.conversion not in (-1, 114) or node.format_spec:
                yield node, "an f-string with more than a name"
        if is_set(node) and source.within(node, ast.FunctionDef, ast.Lambda) is None:
            yield node, "a set at the top"
        if isinstance(node, ast.Dict) and None in node.keys:
            yield node, "a star"


def rule_8(source, sources):
    """Python's own names: those that are listed, none with another meaning."""
    bound = {name for name, node in source.top_names()} | {name for name, node in source.local_names()}
    for node in source.nodes:
        if isinstance(node, ast.Name) and isinstance(node.ctx, ast.Load):
            if node.id in OWN and node.id not in FUNCTIONS | ERRORS:
                yield node, f"{node.id}: a built-in name that is not there"
            elif node.id not in OWN and node.id not in bound:
                yield node, f"{node.id}: a name that is bound nowhere"
        if isinstance(node, ast.Attribute) and node.attr in ("format", "format_map", "mro"):
            yield node, f"{node.attr}: an attribute that is not there"
    for name, node in source.top_names():
        if name in OWN:
            yield node, f"{name}: a name of Python's own with another meaning"


def rule_9(source, sources):
    """No input, no output."""
    for node in source.nodes:
        if isinstance(node, ast.Name) and node.id in ("print", "sys", "time_ns", "open", "input"):
            yield node, "input or output"


def rule_10(source, sources):
    """Sizes."""
    rows = source.text.split("\n")
    if len(source.text.splitlines()) > 400:
        yield 401, "a file of more than 400 lines"
    for number, row in enumerate(rows, start=1):
        if len(row) > 120 or "\t" in row:
            yield number, "a line of more than 120 signs, or a tab"
    for node in source.defs:
        if node.end_lineno - node.lineno + 1 > 40:
            yield node, "a function of more than 40 lines"


def rule_11(source, sources):
    """Nothing hangs on the order of a set's members."""
    for node in source.nodes:
        if isinstance(node, (ast.For, ast.comprehension)) and is_set(node.iter):
            yield node.iter, "a set that is walked"
        if method_called(node) == "pop" and is_set(node.func.value):
            yield node, "pop of a set"


def rule_12(source, sources):
    """Every name is a word of ASCII letters, digits and _ that begins with a letter."""
    for node in source.nodes:
        names = []
        for field in ("id", "arg", "attr", "name", "asname"):
            name = getattr(node, field, None)
            if isinstance(name, str):
                names.append(name)
        for name in names:
            if isinstance(node, ast.alias):
                fine = PLAIN.match(name) or name == "*"
            elif isinstance(node, (ast.FunctionDef, ast.Attribute)):
                fine = PLAIN.match(name) or name == "__init__"
            else:
                fine = PLAIN.match(name)
            if not fine:
                yield node, f"{name}: no plain name"


def rule_13(source, sources):
    """Sets of three numbers; lambdas on one line."""
    seen = {}
    for node in source.nodes:
        if isinstance(node, ast.Set):
            numbers = [item for item in node.elts if isinstance(item, ast.Constant) and isinstance(item.value, int)]
            asked = source.parent[node]
            beside_in = isinstance(asked, ast.Compare) and isinstance(asked.ops[-1], (ast.In, ast.NotIn))
            if len(numbers) > 2 and not beside_in:
                yield node, "a set of three or more numbers"
        if isinstance(node, ast.Lambda):
            mark = (node.lineno, ast.dump(node.args))
            if mark in seen:
                yield node, "two lambdas with the same parameters on one line"
            seen[mark] = True


def rule_14(source, sources):
    """File names and signs."""
    parts = source.path[:-3].split("/")
    for part in parts:
        if BAD_FILES.match(part) or part in OWN or part in WORDS or keyword.iskeyword(part):
            yield 1, f"{part}: a file that may not be called so"
    if not FILES.match(source.path):
        yield 1, "a file name that is not plain"
    folder = source.path.rpartition("/")[0]
    if folder and folder + "/__init__.py" not in {other.path for other in sources}:
        yield 1, "a folder without an __init__.py"
    for number, row in enumerate(source.text.split("\n"), start=1):
        if any(not " " <= sign <= "~" for sign in row):
            yield number, "a sign that is not there"


def rule_15(source, sources):
    """Each name once, nothing kept at the top, no local called like something else."""
    tops = source.top_names()
    names = [name for name, node in tops]
    for name, node in tops:
        if names.count(name) > 1:
            yield node, f"{name}: bound twice"
    for node in source.classes:
        if source.parent[node] is not source.tree:
            yield node, "a class that is not at the top"
    kept = {}
    for name, node in tops:
        if isinstance(node, ast.Assign) and isinstance(node.value, (ast.List, ast.Dict)):
            kept[name] = True
            if any(isinstance(item, (ast.List, ast.Dict)) for item in ast.walk(node.value) if item is not node.value):
                yield node, "a list or dict within one"
    for node in source.nodes:
        if isinstance(node, ast.Name) and node.id in kept and source.parent[node] not in source.tree.body:
            if not is_read(source, node):
                yield node, f"{node.id}: more than read"
    shut = {name for name, node in tops if isinstance(node, (ast.ClassDef, ast.ImportFrom))}
    for name, node in source.local_names():
        if name in shut or name in OWN:
            yield node, f"{name}: a local that is called like something else"


def is_read(source, node):
    """Whether a list or dict of the top is only read where this name stands."""
    around = source.parent[node]
    if isinstance(around, ast.Subscript):
        return around.value is node and isinstance(around.ctx, ast.Load)
    if isinstance(around, (ast.For, ast.comprehension)):
        return around.iter is node
    if isinstance(around, ast.Attribute):
        reads = {"get", "items", "keys", "values", "index", "count", "copy"}
        return around.attr in reads and method_called(source.parent[around]) == around.attr
    if isinstance(around, ast.Call):
        return called(around) in READERS
    return isinstance(around, ast.Compare)


def rule_16(source, sources):
    """Names are drawn from the file that defines them, and no two files draw from one another."""
    modules = {other.module: other for other in sources}
    for node in source.imports:
        if node.module == "__future__" or node.level:
            continue
        drawn = modules.get(node.module)
        for alias in node.names:
            here = [] if drawn is None else [
                name for name, top in drawn.top_names() if not isinstance(top, ast.ImportFrom)
            ]
            if alias.name not in here:
                yield node, f"{alias.name}: not defined there"
    if source.module in reached_from(source, modules):
        yield 1, "files that draw from one another"
    if source.path.endswith("__init__.py"):
        files = {other.path[:-3].split("/")[-1] for other in sources}
        for name, node in source.top_names():
            if name in files:
                yield node, f"{name}: a file's name"


def drawn_by(source, modules):
    """The modules from which a file draws, those above them among them."""
    found = set()
    for node in source.imports:
        parts = (node.module or "").split(".")
        found |= {".".join(parts[:length]) for length in range(1, len(parts) + 1)}
    return [modules[name] for name in sorted(found) if name in modules]


def reached_from(source, modules):
    reached = set()
    todo = drawn_by(source, modules)
    while todo:
        other = todo.pop()
        if other.module not in reached:
            reached.add(other.module)
            todo += drawn_by(other, modules)
    return reached


def rule_17(source, sources):
    """Names and words that are not used."""
    for node in source.nodes:
        names = [getattr(node, field, None) for field in ("id", "arg", "attr", "name")]
        for name in [name for name in names if isinstance(name, str)]:
            if name in NOWHERE or FRAMES.match(name):
                yield node, f"{name}: not used"
            if name in NOT_NAMES and not isinstance(node, ast.Attribute):
                yield node, f"{name}: not used as a name"
        if isinstance(node, ast.Name) and node.id == "__name__":
            yield node, "__name__"
    for number, row in enumerate(source.text.split("\n"), start=1):
        if BAD_WORDS.search(row):
            yield number, "a word that stands nowhere"


def rule_18(source, sources):
    """Classes are called, based on, taken and raised; values go through a local name."""
    classes = package_classes(sources)
    for node in source.nodes:
        if isinstance(node, ast.Name) and isinstance(node.ctx, ast.Load) and node.id in classes | ERRORS:
            if not is_class_use(source, node):
                yield node, f"{node.id}: a class that is kept or handed on"
        if isinstance(node, ast.Attribute) and not isinstance(node.ctx, ast.Load):
            tops = {name for name, top in source.top_names()}
            if not isinstance(node.value, ast.Name) or node.value.id in tops:
                yield node, "a value that is not given through a local name"
    for node in source.classes:
        names = [item.name for item in node.body if isinstance(item, ast.FunctionDef)]
        if len(names) != len(set(names)):
            yield node, "a method that stands twice"
        for base in node.bases:
            if isinstance(base, ast.Name) and base.id in ("StopIteration", "AttributeError"):
                yield node, "an error class in the wrong place"
    for node in source.nodes:
        if isinstance(node, ast.Attribute) and isinstance(node.ctx, ast.Store) and node.attr in own_methods(sources):
            yield node, f"{node.attr}: a method and a value"


def is_class_use(source, node):
    around = source.parent[node]
    if isinstance(around, ast.Call):
        return around.func is node or (called(around) == "isinstance" and around.args[1] is node)
    if isinstance(around, ast.Tuple):
        further = source.parent[around]
        return called(further) == "isinstance" or isinstance(further, ast.ExceptHandler)
    if isinstance(around, ast.Attribute):
        return around.attr == "__init__"
    return isinstance(around, (ast.ClassDef, ast.ExceptHandler, ast.Raise))


def rule_19(source, sources):
    """Errors are taken by name and made on the spot."""
    classes = package_classes(sources)
    for node in source.nodes:
        if isinstance(node, ast.Raise):
            if not isinstance(node.exc, ast.Call) or called(node.exc) not in classes | ERRORS:
                yield node, "an error that is not made on the spot"
            handler = source.within(node, ast.ExceptHandler)
            own = isinstance(node.cause, ast.Name) and handler is not None and node.cause.id == handler.name
            none = isinstance(node.cause, ast.Constant) and node.cause.value is None
            if node.cause is not None and not own and not none:
                yield node, "from something other than the handler's own error"
        if isinstance(node, ast.ExceptHandler):
            taken = node.type.elts if isinstance(node.type, ast.Tuple) else [node.type]
            names = [item.id if isinstance(item, ast.Name) else None for item in taken]
            for name in names:
                if name not in classes | {"KeyError", "ZeroDivisionError", "StopIteration"} | set(
                    ("ValueError", "LookupError", "IndexError")
                ):
                    yield node, "an error that is not taken"
            tried = source.parent[node]
            if set(names) & {"ValueError", "LookupError"} and not is_bare(tried, {"int", "str", "index", "remove"}):
                yield node, "ValueError taken round too much"
            if "IndexError" in names and not is_bare(tried, set()):
                yield node, "IndexError taken round too much"


def is_bare(tried, calls):
    """Whether a try holds nothing but these calls and plain reading."""
    shut = (ast.JoinedStr, ast.Mult, ast.Pow, ast.Mod, ast.LShift, ast.RShift, ast.Slice, ast.Lambda)
    for statement in tried.body:
        for node in ast.walk(statement):
            if isinstance(node, shut):
                return False
            if isinstance(node, ast.Call) and called(node) not in calls and method_called(node) not in calls:
                return False
    return len(tried.body) == 1


def rule_20(source, sources):
    """is stands beside None, True and False alone."""
    for node in source.nodes:
        if isinstance(node, ast.Compare):
            sides = [node.left] + node.comparators
            for number, op in enumerate(node.ops):
                beside = [side for side in sides[number:number + 2] if isinstance(side, ast.Constant)]
                if isinstance(op, (ast.Is, ast.IsNot)) and not any(
                    side.value is None or isinstance(side.value, bool) for side in beside
                ):
                    yield node, "is beside something else"


def rule_21(source, sources):
    """No annotations at all."""
    for node in source.nodes:
        if isinstance(node, ast.AnnAssign) or getattr(node, "annotation", None) or getattr(node, "returns", None):
            yield node, "an annotation"


def rule_22(source, sources):
    """Python's own functions are called, with the keywords that are listed."""
    classes = package_classes(sources)
    for node in source.nodes:
        around = source.parent.get(node)
        if isinstance(node, ast.Name) and node.id in FUNCTIONS and isinstance(node.ctx, ast.Load):
            as_call = isinstance(around, ast.Call) and around.func is node
            as_key = isinstance(around, ast.keyword) and around.arg == "key" and node.id in KEYS
            checked = around if isinstance(around, ast.Call) else source.parent.get(around)
            as_kind = called(checked) == "isinstance" and node.id in KINDS
            if not (as_call or as_key or as_kind):
                yield node, f"{node.id}: kept as a value"
        if called(node) == "isinstance":
            second = node.args[1] if len(node.args) == 2 else None
            kinds = second.elts if isinstance(second, ast.Tuple) else [second]
            for kind in kinds:
                if not isinstance(kind, ast.Name) or kind.id not in KINDS | ERRORS | classes:
                    yield node, "isinstance of another form"
    for node in source.calls:
        names = [item.arg for item in node.keywords]
        own = called(node)
        if own in OWN and set(names) - KEYWORDS.get(own, set()):
            yield node, "a keyword that is not there"
        if (method_called(node) in METHODS or own in classes) and names:
            yield node, "a keyword at a method or an error class"
        for item in node.keywords:
            written = isinstance(item.value, ast.Constant) and isinstance(item.value.value, bool)
            if own in KEYWORDS and item.arg in ("reverse", "strict") and not written:
                yield node, "reverse or strict that is not written"


def rule_23(source, sources):
    """What is made to be walked is walked on the spot, and not changed while it is walked."""
    for node in source.calls:
        made = called(node) in MADE_TO_WALK
        view = method_called(node) in VIEWS and not node.args
        if (made or view) and not is_walked(source, node):
            yield node, "not walked on the spot"
    for node in source.nodes:
        if isinstance(node, ast.For):
            walked = ast.dump(walked_value(node.iter))
            for inner in [item for statement in node.body for item in ast.walk(statement)]:
                changed = None
                if method_called(inner) in CHANGERS:
                    changed = inner.func.value
                if isinstance(inner, ast.Subscript) and isinstance(inner.ctx, ast.Store):
                    changed = inner.value
                if changed is not None and ast.dump(changed) == walked:
                    yield inner, "a change of what is walked"


def walked_value(node):
    """What a loop walks, taken out of enumerate, zip, reversed and views."""
    if called(node) in ("enumerate", "reversed", "zip") and node.args:
        return walked_value(node.args[0])
    if method_called(node) in VIEWS:
        return node.func.value
    return node


def is_walked(source, node):
    around = source.parent[node]
    if isinstance(around, (ast.For, ast.comprehension)):
        return around.iter is node
    if called(around) == "zip":
        return node in around.args
    if called(around) in WALKERS:
        return around.args[0] is node
    if called(around) in ("min", "max"):
        return around.args == [node]
    if method_called(around) == "join":
        return isinstance(around.func.value, ast.Constant)
    return False


def rule_24(source, sources):
    """A set stands beside in or == or straight within sorted or len."""
    for node in source.nodes:
        if not is_set(node):
            continue
        whole = node
        around = source.parent[whole]
        while isinstance(around, ast.BinOp) and isinstance(around.op, (ast.Sub, ast.BitAnd, ast.BitOr, ast.BitXor)):
            whole = around
            around = source.parent[whole]
        if isinstance(around, ast.Compare):
            beside_in = isinstance(around.ops[0], (ast.In, ast.NotIn)) and around.comparators == [whole]
            sides = [around.left] + around.comparators
            same = isinstance(around.ops[0], (ast.Eq, ast.NotEq)) and all(holds_set(side) for side in sides)
            fine = len(around.ops) == 1 and (beside_in or same)
        else:
            fine = called(around) in ("sorted", "len") and around.args == [whole] and not around.keywords
        if not fine:
            yield node, "a set that is kept or walked"


def holds_set(node):
    while isinstance(node, ast.BinOp):
        node = node.left
    return is_set(node)


def rule_25(source, sources):
    """The methods of Python's own values; a method is called where it stands."""
    own = own_methods(sources)
    values = own_values(sources)
    for node in source.nodes:
        if isinstance(node, ast.Attribute) and isinstance(node.ctx, ast.Load):
            around = source.parent[node]
            is_call = isinstance(around, ast.Call) and around.func is node
            as_key = isinstance(around, ast.keyword) and around.arg == "key" and node.attr in own
            if is_call and node.attr not in METHODS | own | {"__init__"}:
                yield node, f"{node.attr}: a method that is not there"
            if not is_call and not as_key and node.attr not in values:
                yield node, f"{node.attr}: a method that is handed on, or no value"


def rule_26(source, sources):
    """The names of own methods and values."""
    for node in source.classes:
        for item in node.body:
            if isinstance(item, ast.FunctionDef) and item.name != "__init__":
                if item.name in TAKEN - METHODS - {"add", "discard"}:
                    yield item, f"{item.name}: a method's name that is not free"
    for node in source.nodes:
        if isinstance(node, ast.Attribute) and isinstance(node.ctx, ast.Store):
            if node.attr in (TAKEN | {"args"}) - FREE_VALUES:
                yield node, f"{node.attr}: a value's name that is not free"


def rule_27(source, sources):
    """Numbers and texts."""
    for node in source.nodes:
        if isinstance(node, (ast.BinOp, ast.AugAssign)) and isinstance(node.op, ast.Pow):
            power = node.right if isinstance(node, ast.BinOp) else node.value
            written = isinstance(power, ast.Constant) and isinstance(power.value, int)
            if not written or not 0 <= power.value <= 64:
                yield node, "an exponent that is not written"
        if isinstance(node, ast.Constant) and isinstance(node.value, str):
            if "%" in node.value:
                yield node, "the percent sign within a text"
        if isinstance(node, ast.Constant) and isinstance(node.value, int) and abs(node.value) >= 10 ** 900:
            yield node, "a number of more than 900 digits"
        if isinstance(node, ast.Constant) and isinstance(node.value, str) or isinstance(node, ast.JoinedStr):
            segment = ast.get_source_segment(source.text, node) or ""
            if re.search(r"\\[^nt\\'\"]", segment.replace("\\\\", "")):
                yield node, "an escape that is not there"
        if isinstance(node, ast.Name) and node.id == "chr":
            yield node, "chr"


def rule_28(source, sources):
    """Of the methods with two underscores there is __init__ alone, and it gives back nothing."""
    for node in source.defs:
        if node.name.startswith("__"):
            if node.name != "__init__" or not isinstance(source.parent[node], ast.ClassDef):
                yield node, f"{node.name}: not written"
            for item in ast.walk(node):
                if isinstance(item, ast.Return) and item.value is not None:
                    yield item, "__init__ that gives something back"
    for node in source.nodes:
        if isinstance(node, ast.Attribute) and node.attr == "__init__":
            around = source.parent[node]
            first = around.args[:1] if isinstance(around, ast.Call) else []
            if not (isinstance(node.value, ast.Name) and first and isinstance(first[0], ast.Name)
                    and first[0].id == "self"):
                yield node, "a base's __init__ called otherwise"


RULES = {
    2: rule_2, 3: rule_3, 4: rule_4, 5: rule_5, 6: rule_6, 7: rule_7, 8: rule_8, 9: rule_9, 10: rule_10,
    11: rule_11, 12: rule_12, 13: rule_13, 14: rule_14, 15: rule_15, 16: rule_16, 17: rule_17, 18: rule_18,
    19: rule_19, 20: rule_20, 21: rule_21, 22: rule_22, 23: rule_23, 24: rule_24, 25: rule_25, 26: rule_26,
    27: rule_27, 28: rule_28,
}


def read_sources(files):
    """The files that can be read, and faults by rule 1 of the others."""
    sources = []
    faults = []
    if "__init__.py" not in files:
        faults.append((14, "__init__.py", 1, "an __init__.py that is not there"))
    for path in sorted(files):
        if not re.match(r"([A-Za-z0-9_]+/)*[A-Za-z0-9_]+\.py$", path):
            faults.append((1, path, 1, "something other than a .py file with a plain name"))
            continue
        try:
            sources.append(Source(path, files[path].decode("utf-8")))
        except (UnicodeDecodeError, SyntaxError) as error:
            faults.append((1, path, 1, f"not read: {error}"))
    return sources, faults


def faults_of(files):
    """A sorted list of tuples (rule, path, line, words)."""
    sources, faults = read_sources(files)
    for source in sources:
        for number, rule in RULES.items():
            for place, words in rule(source, sources):
                line = place if isinstance(place, int) else getattr(place, "lineno", 1)
                faults.append((number, source.path, line, words))
    return sorted(set(faults))


def files_of(folder):
    """The files of a folder as faults_of takes them; what Python itself puts there is passed over."""
    files = {}
    for place, folders, names in os.walk(folder):
        folders[:] = [name for name in folders if name != "__pycache__"]
        for name in names:
            path = os.path.join(place, name)
            with open(path, "rb") as handle:
                files[os.path.relpath(path, folder).replace(os.sep, "/")] = handle.read()
    return files
