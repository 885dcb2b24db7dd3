"""Looks a package's files over for what LANGUAGE.md rules out, as far as the form of the code shows it.

It does not see all: L9, L11, L13, L18, L22 to L24, L26, L28 and the finer words of other rules are left to the reader.
"""

import ast
import builtins
import re

PACKAGE = "endless"
FILE_NAME = re.compile(r"[a-z][a-z0-9_]*\.py|__init__\.py|__main__\.py")
PLAIN_NAME = re.compile(r"[A-Za-z][A-Za-z0-9_]*")
METHODS_OF_L5 = {"__init__", "__eq__", "__repr__", "__str__", "__len__"}
UNUSED_FILES = {
    "test", "tests", "testing", "site", "conftest", "sitecustomize", "usercustomize", "typing", "enum", "dataclass",
}
OWN_NAMES = set(
    "len range enumerate zip min max sum abs sorted reversed int str bool list tuple dict set frozenset isinstance "
    "ord repr any all divmod Exception ValueError TypeError KeyError IndexError LookupError ZeroDivisionError "
    "ArithmeticError OverflowError RuntimeError NotImplementedError AttributeError StopIteration".split()
)
METHODS = set(
    "append clear copy count endswith extend find get index insert isalnum isalpha isdigit islower isspace isupper "
    "items join keys ljust lower lstrip partition pop remove replace reverse rfind rjust rpartition rsplit rstrip "
    "setdefault split splitlines startswith strip update upper values zfill bit_length".split()
)
UNUSED_NAMES = set("register mro elements open input version_info with_traceback add_note format format_map".split())
UNUSED_WORDS = re.compile(
    r"\b(type|typing|typing_extensions|enum|Enum|IntEnum|StrEnum|Flag|IntFlag|Generic|Protocol|ABC|ABCMeta|namedtuple"
    r"|NamedTuple|TypedDict|TYPE_CHECKING|abstractmethod)\b|dataclass|overload|contextmanager"
)
STATEMENTS = (
    ast.Assign, ast.AugAssign, ast.If, ast.While, ast.For, ast.Return, ast.Break, ast.Continue, ast.Pass, ast.Raise,
    ast.Try, ast.Expr, ast.FunctionDef, ast.ClassDef, ast.ImportFrom,
)
EXPRESSIONS = (
    ast.Constant, ast.Name, ast.List, ast.Tuple, ast.Dict, ast.Set, ast.BinOp, ast.UnaryOp, ast.BoolOp, ast.Compare,
    ast.IfExp, ast.Call, ast.Attribute, ast.Subscript, ast.Slice, ast.ListComp, ast.JoinedStr, ast.FormattedValue,
    ast.Lambda,
)
TOP = (ast.Expr, ast.ImportFrom, ast.FunctionDef, ast.ClassDef, ast.Assign)


def faults_of(sources):
    """The faults of a package, given as a dict of file names and texts: a list of texts, the rule's number first."""
    faults = []
    for name in sorted(sources):
        faults += file_faults(name, sources[name]) + tree_faults(name, ast.parse(sources[name]))
    return faults + import_faults(sources)


def file_faults(name, text):
    rows = text.split("\n")
    stem = name.removesuffix(".py")
    found = [
        ("L1", 0, not FILE_NAME.fullmatch(name)),
        ("L14", 0, stem in UNUSED_FILES or stem.startswith("test_")),
        ("L14", 0, hasattr(builtins, stem) and not stem.startswith("__")),
        ("L10", 0, len(text.splitlines()) > 400),
    ]
    for place, row in enumerate(rows, start=1):
        found.append(("L10", place, len(row) > 120))
        found.append(("L14", place, re.search(r"[^ -~]", row)))
        found.append(("L17", place, UNUSED_WORDS.search(row)))
    return told(name, found)


def tree_faults(name, tree):
    found = top_faults(tree) + shadow_faults(tree)
    for node in ast.walk(tree):
        line = getattr(node, "lineno", 0)
        found += [(rule, line, broken) for rule, broken in node_faults(node)]
    return told(name, found)


def told(name, found):
    return [f"{rule} {name}:{line}" for rule, line, broken in found if broken]


def top_faults(tree):
    found = []
    bound = []
    for place, node in enumerate(tree.body):
        docstring = place == 0 and isinstance(node, ast.Expr) and isinstance(node.value, ast.Constant)
        found.append(("L3", node.lineno, not isinstance(node, TOP)))
        found.append(("L3", node.lineno, isinstance(node, ast.Expr) and not docstring))
        if isinstance(node, ast.Assign):
            bound += [target.id for target in node.targets if isinstance(target, ast.Name)]
            calls = [part for part in ast.walk(node.value) if isinstance(part, (ast.Call, ast.BinOp))]
            found.append(("L3", node.lineno, calls))
        elif isinstance(node, ast.ImportFrom):
            bound += [alias.asname or alias.name for alias in node.names]
        elif isinstance(node, (ast.FunctionDef, ast.ClassDef)):
            bound.append(node.name)
    found += [("L15", 0, bound.count(name) > 1) for name in set(bound)]
    for node in tree.body:
        inner = [part for part in ast.walk(node) if part is not node]
        found += [("L15", node.lineno, isinstance(part, ast.ClassDef)) for part in inner]
        found += [("L2", node.lineno, isinstance(part, (ast.Import, ast.ImportFrom))) for part in inner]
    return found


def shadow_faults(tree):
    taken = {node.name for node in tree.body if isinstance(node, ast.ClassDef)}
    for node in tree.body:
        if isinstance(node, ast.ImportFrom):
            taken |= {alias.asname or alias.name for alias in node.names}
    found = []
    for node in ast.walk(tree):
        if isinstance(node, ast.arg):
            found.append(("L15", node.lineno, node.arg in taken))
        if isinstance(node, ast.Name) and isinstance(node.ctx, ast.Store):
            found.append(("L15", node.lineno, node.id in taken))
    return found


def node_faults(node):
    if isinstance(node, ast.stmt):
        yield "L6", not isinstance(node, STATEMENTS)
    if isinstance(node, ast.expr):
        yield "L7", not isinstance(node, EXPRESSIONS)
    if isinstance(node, (ast.FunctionDef, ast.Lambda)):
        yield from function_faults(node)
    if isinstance(node, ast.ClassDef):
        yield "L5", node.decorator_list or len(node.bases) > 1 or node.keywords
        yield "L5", not all(isinstance(part, (ast.FunctionDef, ast.Pass)) for part in node.body)
    yield from statement_faults(node)
    yield from expression_faults(node)
    yield from name_faults(node)


def function_faults(node):
    args = node.args
    yield "L4", args.vararg or args.kwarg or args.kwonlyargs or args.posonlyargs
    yield "L4", not all(isinstance(value, (ast.Constant, ast.UnaryOp)) for value in args.defaults)
    yield "L15", any(hasattr(builtins, arg.arg) for arg in args.args)
    yield "L12", any(not PLAIN_NAME.fullmatch(arg.arg) for arg in args.args)
    if isinstance(node, ast.FunctionDef):
        yield "L4", node.decorator_list
        yield "L10", node.end_lineno - node.lineno + 1 > 40
        yield "L12", not PLAIN_NAME.fullmatch(node.name) and node.name not in METHODS_OF_L5
        yield "L21", node.returns or any(arg.annotation for arg in args.args)


def statement_faults(node):
    if isinstance(node, ast.Assign):
        yield "L6", len(node.targets) > 1 or isinstance(node.targets[0], (ast.Tuple, ast.List))
    if isinstance(node, (ast.For, ast.While)):
        yield "L6", node.orelse
    if isinstance(node, ast.Try):
        yield "L6", node.finalbody
        yield "L19", any(handler.type is None for handler in node.handlers)
    if isinstance(node, ast.Raise):
        yield "L19", not isinstance(node.exc, ast.Call)


def expression_faults(node):
    if isinstance(node, ast.Constant):
        yield "L7", isinstance(node.value, (float, complex, bytes)) or node.value is ...
        yield "L27", isinstance(node.value, str) and "%" in node.value
    if isinstance(node, (ast.BinOp, ast.AugAssign)):
        yield "L7", isinstance(node.op, (ast.Div, ast.MatMult))
        power = node.right if isinstance(node, ast.BinOp) else node.value
        yield "L27", isinstance(node.op, ast.Pow) and not isinstance(power, ast.Constant)
    if isinstance(node, ast.ListComp):
        yield "L7", len(node.generators) > 1 or len(node.generators[0].ifs) > 1
    if isinstance(node, ast.FormattedValue):
        yield "L7", not isinstance(node.value, ast.Name) or node.format_spec
    if isinstance(node, ast.Compare) and any(isinstance(op, (ast.Is, ast.IsNot)) for op in node.ops):
        yield "L20", not all(isinstance(part, ast.Constant) for part in node.comparators)


def name_faults(node):
    if isinstance(node, ast.Name):
        yield "L12", not PLAIN_NAME.fullmatch(node.id) and node.id not in ("__all__", "__version__")
        yield "L8", hasattr(builtins, node.id) and node.id not in OWN_NAMES
        yield "L15", hasattr(builtins, node.id) and not isinstance(node.ctx, ast.Load)
        yield "L17", node.id in UNUSED_NAMES
    if isinstance(node, ast.Attribute):
        yield "L17", node.attr in UNUSED_NAMES
    # The program has no class with methods yet, so each method that is called is one of Python's own.
    if isinstance(node, ast.Call) and isinstance(node.func, ast.Attribute):
        yield "L25", node.func.attr not in METHODS


def import_faults(sources):
    draws = {name: set() for name in sources}
    found = []
    for name, text in sources.items():
        for node in ast.parse(text).body:
            if isinstance(node, ast.ImportFrom):
                drawn = f"{(node.module or '').removeprefix(PACKAGE + '.')}.py"
                draws[name] |= {drawn, "__init__.py"}
                absent = [part.name for part in node.names if part.name not in defined_in(sources.get(drawn, ""))]
                found.append(f"L16 {name}:{node.lineno}" if absent or node.level else "")
    found += [f"L16 {name}:0" for name in draws if name in reached_from(name, draws)]
    return [fault for fault in found if fault]


def defined_in(text):
    names = set()
    for node in ast.parse(text).body:
        if isinstance(node, (ast.FunctionDef, ast.ClassDef)):
            names.add(node.name)
        if isinstance(node, ast.Assign):
            names |= {target.id for target in node.targets if isinstance(target, ast.Name)}
    return names


def reached_from(name, draws):
    reached = set()
    waiting = list(draws[name])
    while waiting:
        drawn = waiting.pop()
        if drawn not in reached:
            reached.add(drawn)
            waiting += draws.get(drawn, ())
    return reached
