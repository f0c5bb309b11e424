"""A check of the package's files against the rules of the language subset.

It finds the breaches that can be seen in the code; each is told as a string.
"""

import ast
import builtins
import pathlib
import re

from tests.runs import double_name_faults

PACKAGE = pathlib.Path(__file__).resolve().parent.parent / "namesakes"
LIBRARY = {
    "heapq": {"heappush", "heappop", "heapify", "heapreplace", "heappushpop"},
    "math": {"gcd", "lcm", "isqrt", "comb", "perm", "factorial"},
    "collections": {"defaultdict", "deque"},
}
BUILTINS = set(
    "len range enumerate zip min max sum abs sorted reversed int str bool list tuple dict set frozenset isinstance ord "
    "repr any all divmod iter type property staticmethod classmethod object "
    "Exception ValueError TypeError KeyError IndexError LookupError NotImplemented".split()
)
METHODS = set(
    "append clear copy count endswith extend find get index insert isalnum isalpha isdigit islower isspace isupper "
    "items join keys ljust lower lstrip partition pop remove replace reverse rfind rjust rpartition rsplit rstrip "
    "setdefault split splitlines startswith strip update upper values zfill bit_length title capitalize swapcase "
    "casefold center expandtabs removeprefix removesuffix rindex isascii isdecimal isnumeric add discard".split()
)
BARRED_NAMES = set(
    "register mro elements open input law version_info with_traceback add_note attrgetter breakpoint builtins compile "
    "copyright credits delattr dir eval exec exit gc globals help id importlib license locals methodcaller os quit "
    "vars sys".split()
)
BARRED_WORDS = re.compile(
    r"\b(typing|typing_extensions|enum|Enum|IntEnum|StrEnum|Flag|IntFlag|Generic|Protocol|ABC|ABCMeta|namedtuple"
    r"|NamedTuple|TypedDict|TYPE_CHECKING|abstractmethod)\b|dataclass|overload|contextmanager"
)
PLAIN_WORDS = re.compile(r"\b(_wall|_WallAttr)\b")
BARRED_BEGINNINGS = ("_pe_", "_dcw_", "_enum_", "_cm_", "_twin_re_", "_lay_", "_law_", "_stub_", "_sre", "_WallAttr")
BARRED_WHOLE = r"(_cold|_tuplegetter|_outside|_record|_written_out|_member_names)[0-9_]*"
DUNDERS = set(
    "__init__ __eq__ __repr__ __str__ __len__ __enter__ __exit__ __call__ __iter__ __contains__ __or__ __and__".split()
)
EXPRESSIONS = (ast.GeneratorExp, ast.Await, ast.AsyncFor, ast.AsyncWith, ast.AsyncFunctionDef, ast.Try, ast.Global)
TAKE_ALL = {"list", "tuple", "sorted", "sum", "min", "max", "any", "all", "enumerate", "zip", "dict", "len", "set"}


def files():
    return sorted(PACKAGE.glob("*.py"))


def trees():
    return {path.stem: ast.parse(path.read_text()) for path in files()}


def text_faults(path):
    text = path.read_text()
    rows = text.split("\n")
    if len(rows) - 1 > 399:
        yield "L10 file too long"
    for number, row in enumerate(rows, 1):
        if len(row) > 120:
            yield f"L10 {number}: line too long"
        if not all(" " <= sign <= "~" for sign in row):
            yield f"L14 {number}: sign"
    if BARRED_WORDS.search(text):
        yield "L17 word"
    if PLAIN_WORDS.search(text):
        yield "L12 word"


def names_in(tree):
    """(line, name, whether it is an attribute or a method) of all names of a file."""
    methods = {item for node in ast.walk(tree) if isinstance(node, ast.ClassDef) for item in node.body}
    for node in ast.walk(tree):
        line = getattr(node, "lineno", 0)
        if isinstance(node, ast.Attribute):
            yield line, node.attr, True
        elif isinstance(node, (ast.FunctionDef, ast.AsyncFunctionDef, ast.ClassDef)):
            yield line, node.name, node in methods
        for field in ("id", "arg", "asname", "rest"):
            if isinstance(getattr(node, field, None), str):
                yield line, getattr(node, field), False
        if isinstance(node, (ast.alias, ast.ExceptHandler, ast.MatchAs, ast.MatchStar)) and node.name:
            yield from ((line, name, False) for name in node.name.split("."))
        if isinstance(node, ast.ImportFrom):
            yield from ((line, name, False) for name in (node.module or "").split("."))
        if isinstance(node, (ast.Global, ast.Nonlocal)):
            yield from ((line, name, False) for name in node.names)


def plain_name_faults(tree):
    """Names that L12 does not let, wherever they stand in the file."""
    for line, name, is_member in names_in(tree):
        beginnings = BARRED_BEGINNINGS if is_member else ("_wall",) + BARRED_BEGINNINGS
        if name.startswith(beginnings) or re.fullmatch(BARRED_WHOLE, name):
            yield f"{line}: L12 {name}"


def own_names(all_trees):
    """Names of the package's functions, classes, methods and attributes, and its generators."""
    functions, generators, attributes = set(), set(), set()
    for tree in all_trees.values():
        for node in ast.walk(tree):
            if isinstance(node, (ast.FunctionDef, ast.ClassDef)):
                functions.add(node.name)
            if isinstance(node, ast.FunctionDef) and any(isinstance(n, (ast.Yield, ast.YieldFrom)) for n in ast.walk(node)):
                generators.add(node.name)
            if isinstance(node, ast.Attribute) and isinstance(node.ctx, ast.Store):
                attributes.add(node.attr)
    return functions, generators, attributes


def module_faults(name, tree, all_trees):
    """Imports, and what stands at module level."""
    bound = []
    for node in tree.body:
        if isinstance(node, ast.ImportFrom):
            yield from import_faults(node, all_trees)
            bound.extend(alias.name for alias in node.names)
        elif isinstance(node, (ast.FunctionDef, ast.ClassDef)):
            bound.append(node.name)
        elif isinstance(node, ast.Assign):
            bound.append(node.targets[0].id)
        elif not (isinstance(node, ast.Expr) and isinstance(node.value, ast.Constant)):
            yield f"L3 {node.lineno}: statement at module level"
    for twice in {item for item in bound if bound.count(item) > 1}:
        yield f"L15 {twice} bound twice"
    imported = [alias.name for node in tree.body if isinstance(node, ast.ImportFrom) for alias in node.names]
    used = {node.id for node in ast.walk(tree) if isinstance(node, ast.Name)}
    for item in imported:
        if item not in used:
            yield f"{item} is imported and not used"
    classes = [node.name for node in tree.body if isinstance(node, ast.ClassDef)]
    for node in ast.walk(tree):
        if isinstance(node, ast.arg) and node.arg in imported + classes:
            yield f"L15 {node.lineno}: parameter {node.arg}"
        if isinstance(node, ast.Name) and isinstance(node.ctx, ast.Store) and node.id in imported + classes:
            yield f"L15 {node.lineno}: variable {node.id}"


def import_faults(node, all_trees):
    if node.module in LIBRARY:
        yield from (f"L2 {alias.name}" for alias in node.names if alias.name not in LIBRARY[node.module])
        return
    package, _, module = (node.module or "").partition(".")
    if node.level or package != "namesakes" or module not in all_trees:
        yield f"L2 {node.lineno}: import"
        return
    defined = {getattr(item, "name", None) for item in all_trees[module].body}
    defined |= {item.targets[0].id for item in all_trees[module].body if isinstance(item, ast.Assign)}
    for alias in node.names:
        if alias.name not in defined or alias.asname:
            yield f"L16 {node.lineno}: {alias.name} is not defined in {module}"


def cycle_faults(all_trees):
    needs = {}
    for name, tree in all_trees.items():
        modules = [node.module for node in tree.body if isinstance(node, ast.ImportFrom)]
        needs[name] = {module.partition(".")[2] for module in modules if module.startswith("namesakes.")}
    while needs:
        free = [name for name in needs if not needs[name] & set(needs)]
        if not free:
            yield f"L16 cycle among {sorted(needs)}"
            return
        for name in free:
            del needs[name]


def node_faults(tree, functions, generators, attributes):
    parents = {child: node for node in ast.walk(tree) for child in ast.iter_child_nodes(node)}
    for node in ast.walk(tree):
        line = getattr(node, "lineno", 0)
        for fault in one_node_faults(node, parents, functions, generators, attributes):
            yield f"{line}: {fault}"


def one_node_faults(node, parents, functions, generators, attributes):
    parent = parents.get(node)
    if isinstance(node, EXPRESSIONS) and not (isinstance(node, ast.Try) and catches_own(node)):
        yield f"{type(node).__name__} is not used here"
    if isinstance(node, ast.FunctionDef):
        yield from function_faults(node, parent)
    if isinstance(node, ast.Name):
        yield from name_faults(node)
    if isinstance(node, ast.Constant):
        yield from constant_faults(node, parent)
    if isinstance(node, ast.Call):
        yield from call_faults(node, parent, functions, generators, attributes)
    if isinstance(node, (ast.Set, ast.SetComp)) and not in_measure(parent):
        yield "L24 set"
    if isinstance(node, ast.BinOp) and isinstance(node.op, (ast.Div, ast.MatMult)):
        yield "L7 operator"
    if isinstance(node, ast.BinOp) and isinstance(node.op, ast.Pow) and not is_exponent(node.right):
        yield "L27 exponent"
    if isinstance(node, ast.Compare) and any(isinstance(op, (ast.Is, ast.IsNot)) for op in node.ops):
        right = node.comparators[0]
        is_type = isinstance(right, ast.Call) and getattr(right.func, "id", "") == "type"
        if not is_type and not (isinstance(right, ast.Constant) and right.value in (None, True, False)):
            yield "L20 is"
    if isinstance(node, ast.JoinedStr) and "\n" in ast.unparse(node):
        yield "L27 f-string"
    if isinstance(node, ast.With):
        yield from with_faults(node)
    if isinstance(node, (ast.AnnAssign, ast.NamedExpr, ast.Lambda, ast.Match, ast.Nonlocal)):
        yield f"{type(node).__name__} is not used so far: check its rule"
    if isinstance(node, ast.Raise) and node.exc is not None:
        if not (isinstance(node.exc, ast.Call) and isinstance(node.exc.func, ast.Name)):
            yield "L19 raise"


def is_exponent(node):
    return isinstance(node, ast.Constant) and isinstance(node.value, int) and 0 <= node.value <= 64


def with_faults(node):
    for item in node.items:
        if not isinstance(item.context_expr, (ast.Call, ast.Name, ast.Attribute)):
            yield "L6 with"
        if item.optional_vars is not None and not isinstance(item.optional_vars, ast.Name):
            yield "L6 with"


def exit_faults(node):
    """The rows of __exit__ only assign names and attributes to one another."""
    for row in node.body:
        plain = isinstance(row, ast.Assign) and all(is_simple(part) for part in [*row.targets, row.value])
        if not plain and not isinstance(row, ast.Pass):
            yield "L6 __exit__"


def is_simple(node):
    return isinstance(node, ast.Name) or isinstance(node, ast.Attribute) and is_simple(node.value)


def catches_own(node):
    for handler in node.handlers:
        kinds = handler.type.elts if isinstance(handler.type, ast.Tuple) else [handler.type]
        if any(getattr(kind, "id", "Exception") in dir(builtins) for kind in kinds):
            return False
    return not node.finalbody


def in_measure(parent):
    return isinstance(parent, ast.Call) and getattr(parent.func, "id", "") in ("len", "sorted")


def function_faults(node, parent):
    if node.end_lineno - node.lineno + 1 > 40:
        yield f"L10 {node.name} is too long"
    names = [getattr(item, "id", None) for item in node.decorator_list]
    if any(name not in ("property", "staticmethod", "classmethod") for name in names):
        yield "L4 decorator"
    if node.name.startswith("__") and node.name not in DUNDERS:
        yield f"L5 {node.name}"
    if not isinstance(parent, (ast.Module, ast.ClassDef)):
        yield f"nested function {node.name}: check its rule"
    for item in node.args.args + node.args.kwonlyargs:
        if item.arg in dir(builtins) or item.arg in BARRED_NAMES or item.annotation:
            yield f"L15 parameter {item.arg}"
    returns = [item.value for item in ast.walk(node) if isinstance(item, ast.Return)]
    if node.name == "__len__" and not all(getattr(item.func, "id", "") == "len" for item in returns):
        yield "L28 __len__"
    if node.name in ("__str__", "__repr__") and not all(is_text(item) for item in returns):
        yield f"L28 {node.name}"
    if node.name == "__iter__" and not (len(node.body) == 1 and getattr(returns[0].func, "id", "") == "iter"):
        yield "L5 __iter__"
    if node.name == "__init__" and any(item is not None for item in returns):
        yield "L28 __init__"
    if node.name == "__exit__":
        yield from exit_faults(node)


def is_text(node):
    if isinstance(node, ast.Call) and isinstance(node.func, ast.Attribute):
        return node.func.attr == "join" and isinstance(node.func.value, ast.Constant)
    if isinstance(node, ast.Call):
        return getattr(node.func, "id", "") in ("str", "repr")
    return isinstance(node, ast.JoinedStr) or isinstance(node, ast.Constant) and isinstance(node.value, str)


def name_faults(node):
    if node.id in dir(builtins) and (isinstance(node.ctx, ast.Store) or node.id not in BUILTINS):
        yield f"L8, L15 {node.id}"
    if node.id in BARRED_NAMES or node.id.startswith("__"):
        yield f"L17 {node.id}"
    if node.id == "_" and not isinstance(node.ctx, ast.Store):
        yield "L12 _ is read"


def constant_faults(node, parent):
    if isinstance(node.value, (float, complex)) or node.value is ...:
        yield "L7 number"
    if isinstance(node.value, str) and not isinstance(parent, ast.Expr):
        if "%" in node.value or node.value.startswith("__") or node.value.endswith(("._", ".__")):
            yield "L27 string"


def call_faults(node, parent, functions, generators, attributes):
    name = getattr(node.func, "id", None)
    for item in node.args:
        if isinstance(item, ast.Starred) and not isinstance(item.value, (ast.Name, ast.Attribute)):
            yield "L7 star"
        if isinstance(item, ast.Starred) and name is not None and name not in functions:
            yield "L7 star in a builtin's call"
    if isinstance(node.func, ast.Attribute) and node.func.attr not in METHODS | functions | attributes:
        yield f"L25 {node.func.attr}"
    if name == "type" and not isinstance(parent, ast.Compare):
        yield "L8 type"
    if name in ("zip", "enumerate", "reversed") and not iterated(node, parent):
        yield f"L23 {name} is kept"
    if name == "range" and isinstance(parent, (ast.Return, ast.List, ast.Tuple, ast.Dict)):
        yield "L23 range is kept"
    if getattr(node.func, "attr", "") in ("items", "keys", "values") and not iterated(node, parent):
        yield f"L23 {node.func.attr} is kept"
    called = name or getattr(node.func, "attr", None)
    if called in generators:
        if not iterated(node, parent):
            yield f"L23 generator {called} is kept"
        if any(not isinstance(item, (ast.Name, ast.Attribute, ast.Constant)) for item in node.args):
            yield f"L23 what {called} is passed"
    if name in ("set", "frozenset") and not in_measure(parent):
        yield "L24 set"


def iterated(node, parent):
    if isinstance(parent, (ast.For, ast.comprehension)):
        return parent.iter is node
    if isinstance(parent, ast.YieldFrom):
        return True
    return isinstance(parent, ast.Call) and getattr(parent.func, "id", "") in TAKE_ALL - {"len", "set"}


def all_faults():
    all_trees = trees()
    functions, generators, attributes = own_names(all_trees)
    for path in files():
        tree = all_trees[path.stem]
        found = list(text_faults(path)) + list(module_faults(path.stem, tree, all_trees))
        found += list(node_faults(tree, functions, generators, attributes))
        found += list(plain_name_faults(tree))
        yield from (f"{path.name}: {fault}" for fault in found)
    yield from cycle_faults(all_trees)
    yield from double_name_faults(all_trees)
