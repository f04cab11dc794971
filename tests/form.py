"""Tells where a file leaves the part of Python that the program keeps to.

It tells a part of the rules alone, by the rule's number and the line. Nothing is looked at for L13 and L28, and of
L15, L17, L18, L19, L22, L23 and L26 only what stands below: these are left to the reader.
"""

import ast
import builtins
import re

STATEMENTS = (ast.Assign, ast.AugAssign, ast.AnnAssign, ast.If, ast.While, ast.For, ast.Return, ast.Break,
              ast.Continue, ast.Pass, ast.Raise, ast.Try, ast.Expr, ast.FunctionDef, ast.ClassDef, ast.ImportFrom)
EXPRESSIONS = (ast.BoolOp, ast.BinOp, ast.UnaryOp, ast.Lambda, ast.IfExp, ast.Dict, ast.Set, ast.ListComp,
               ast.Compare, ast.Call, ast.FormattedValue, ast.JoinedStr, ast.Constant, ast.Attribute, ast.Subscript,
               ast.Name, ast.List, ast.Tuple, ast.Slice)
OWN_NAMES = set("""
    len range enumerate zip min max sum abs sorted reversed int str bool list tuple dict set frozenset isinstance ord
    repr any all divmod Exception ValueError TypeError KeyError IndexError LookupError ZeroDivisionError
    ArithmeticError OverflowError RuntimeError NotImplementedError AttributeError StopIteration
""".split())
METHODS = set("""
    append clear copy count endswith extend find get index insert isalnum isalpha isdigit islower isspace isupper items
    join keys ljust lower lstrip partition pop remove replace reverse rfind rjust rpartition rsplit rstrip setdefault
    split splitlines startswith strip update upper values zfill bit_length
""".split())
TWO_UNDERSCORES = {"__init__", "__eq__", "__repr__", "__str__", "__len__"}
NEVER = set("""
    register mro elements open input version_info with_traceback add_note f_back tb_next co_names format format_map
""".split())
NOT_AS_NAMES = set("""
    attrgetter breakpoint builtins compile copyright credits delattr dir eval exec exit gc getattr globals hasattr help
    id importlib license locals methodcaller os quit setattr super type vars sys __name__ chr print
""".split())
WORDS = re.compile(r"\b(type|typing|typing_extensions|enum|Enum|IntEnum|StrEnum|Flag|IntFlag|Generic|Protocol|ABC|"
                   r"ABCMeta|namedtuple|NamedTuple|TypedDict|TYPE_CHECKING|abstractmethod)\b|"
                   r"dataclass|overload|contextmanager")
KEYWORDS = {"sorted": {"key", "reverse"}, "min": {"key", "default"}, "max": {"key", "default"}, "sum": {"start"},
            "enumerate": {"start"}, "zip": {"strict"}}
WALKED = {"zip", "enumerate", "reversed", "range"}
WALKED_METHODS = {"items", "keys", "values"}
WALKERS = {"list", "tuple", "dict", "sorted", "sum", "any", "all", "enumerate", "zip", "min", "max"}
VALUES_FREE = {"count", "index", "title", "find", "get", "join", "lower", "upper", "split", "strip", "copy", "add"}
PYTHONS_KINDS = (str, int, list, tuple, dict, set, frozenset, bytes, ValueError)
PYTHONS_VALUES = {name for kind in PYTHONS_KINDS for name in dir(kind)}
PLAIN_NAME = re.compile(r"[A-Za-z][A-Za-z0-9_]*\Z")
PYTHONS_NAMES = set(dir(builtins))


def faults(source, package="waymark"):
    tree = ast.parse(source)
    told = list(row_faults(source)) + list(top_faults(tree, package))
    own = own_methods(tree)
    for node in ast.walk(tree):
        told += [f"{rule} line {getattr(node, 'lineno', 0)}" for rule in node_faults(node, own)]
        told += [f"{rule} line {child.lineno}" for child in ast.iter_child_nodes(node) if isinstance(child, ast.expr)
                 for rule in standing_faults(child, node)]
    return told


def row_faults(source):
    rows = source.split("\n")
    if len(rows) > 401:
        yield "L10 file too long"
    for number, row in enumerate(rows, start=1):
        if len(row) > 120:
            yield f"L10 line {number}"
        if any(not " " <= sign <= "~" for sign in row):
            yield f"L14 line {number}"
        if WORDS.search(row):
            yield f"L17 line {number}"


def own_methods(tree):
    return {item.name for node in ast.walk(tree) if isinstance(node, ast.ClassDef) for item in node.body
            if isinstance(item, ast.FunctionDef)}


def top_faults(tree, package):
    names = []
    for place, node in enumerate(tree.body):
        if place == 0 and isinstance(node, ast.Expr) and isinstance(node.value, ast.Constant):
            continue
        if isinstance(node, ast.ImportFrom):
            names += [alias.asname or alias.name for alias in node.names]
            module = node.module or ""
            if node.level or not module.startswith(package + ".") or any(item.name == "*" for item in node.names):
                yield f"L2 line {node.lineno}"
        elif isinstance(node, (ast.FunctionDef, ast.ClassDef)):
            names.append(node.name)
        elif isinstance(node, ast.Assign) and isinstance(node.targets[0], ast.Name) and is_plain(node.value):
            names.append(node.targets[0].id)
        else:
            yield f"L3 line {node.lineno}"
    if len(names) != len(set(names)):
        yield "L15 a name bound twice at the top"
    yield from local_faults(tree, {name for name in names if name not in own_functions(tree)})


def own_functions(tree):
    return {node.name for node in tree.body if isinstance(node, ast.FunctionDef)}


def local_faults(tree, taken):
    for function in [node for node in ast.walk(tree) if isinstance(node, (ast.FunctionDef, ast.Lambda))]:
        bound = {item.arg for item in ast.walk(function) if isinstance(item, ast.arg)}
        bound |= {item.id for item in ast.walk(function)
                  if isinstance(item, ast.Name) and isinstance(item.ctx, ast.Store)}
        if bound & (taken | PYTHONS_NAMES):
            yield f"L15 line {function.lineno}"


def is_plain(value):
    if isinstance(value, (ast.List, ast.Tuple)):
        return all(is_plain(item) for item in value.elts)
    if isinstance(value, ast.Dict):
        return all(is_plain(item) for item in value.keys + value.values)
    if isinstance(value, ast.UnaryOp) and isinstance(value.op, ast.USub):
        return is_plain(value.operand)
    return isinstance(value, (ast.Constant, ast.Name))


def standing_faults(node, parent):
    """Where a thing may stand, told by what is around it."""
    if is_set(node) and not set_may_stand(parent):
        yield "L24"
    if is_walked(node) and not is_walker(node, parent):
        yield "L23"


def is_set(node):
    return isinstance(node, ast.Set) or called_name(node) in ("set", "frozenset")


def set_may_stand(parent):
    if isinstance(parent, ast.Compare):
        return isinstance(parent.ops[0], (ast.In, ast.NotIn)) or all(
            is_set(side) or isinstance(side, ast.BinOp) for side in [parent.left] + parent.comparators)
    return isinstance(parent, ast.BinOp) or called_name(parent) in ("len", "sorted") and not parent.keywords


def is_walked(node):
    return called_name(node) in WALKED or (
        isinstance(node, ast.Call) and isinstance(node.func, ast.Attribute) and node.func.attr in WALKED_METHODS)


def is_walker(node, parent):
    if isinstance(parent, (ast.For, ast.comprehension)):
        return parent.iter is node
    if isinstance(parent, ast.Call) and isinstance(parent.func, ast.Attribute):
        return parent.func.attr == "join" and isinstance(parent.func.value, ast.Constant)
    return called_name(parent) in WALKERS


def called_name(node):
    return node.func.id if isinstance(node, ast.Call) and isinstance(node.func, ast.Name) else None


def node_faults(node, own):
    if isinstance(node, ast.stmt):
        yield from statement_faults(node)
    if isinstance(node, ast.expr):
        yield from expression_faults(node, own)
    if isinstance(node, (ast.FunctionDef, ast.Lambda)):
        yield from parameter_faults(node.args)
    if isinstance(node, ast.arg) and not PLAIN_NAME.match(node.arg):
        yield "L12"
    if getattr(node, "annotation", None) or getattr(node, "returns", None):
        yield "L21"
    if isinstance(node, ast.comprehension) and (node.is_async or len(node.ifs) > 1):
        yield "L7"
    if isinstance(node, ast.ExceptHandler):
        if node.type is None or {item.id for item in ast.walk(node.type) if isinstance(item, ast.Name)} & {
                "Exception", "TypeError"}:
            yield "L19"


def statement_faults(node):
    if not isinstance(node, STATEMENTS):
        yield "L6"
    if isinstance(node, ast.Assign) and len(node.targets) > 1:
        yield "L6"
    if isinstance(node, (ast.For, ast.While)) and node.orelse or isinstance(node, ast.Try) and node.finalbody:
        yield "L6"
    if isinstance(node, ast.Expr) and not isinstance(node.value, (ast.Call, ast.Constant)):
        yield "L6"
    if isinstance(node, ast.FunctionDef):
        if node.decorator_list:
            yield "L4"
        if node.end_lineno - node.lineno + 1 > 40:
            yield "L10"
        if not PLAIN_NAME.match(node.name) and node.name not in TWO_UNDERSCORES:
            yield "L12"
    if isinstance(node, ast.ClassDef):
        yield from class_faults(node)


def class_faults(node):
    if node.decorator_list or node.keywords or len(node.bases) > 1 or not PLAIN_NAME.match(node.name):
        yield "L5"
    if any(not isinstance(item, (ast.FunctionDef, ast.Pass)) for item in node.body):
        yield "L5"
    methods = [item.name for item in node.body if isinstance(item, ast.FunctionDef)]
    if len(methods) != len(set(methods)):
        yield "L18"
    if set(methods) & (PYTHONS_VALUES - METHODS - TWO_UNDERSCORES - {"add", "discard"}):
        yield "L26"


def parameter_faults(args):
    if args.vararg or args.kwarg or args.kwonlyargs or args.posonlyargs:
        yield "L4"
    if not all(is_plain(value) for value in args.defaults):
        yield "L4"


def expression_faults(node, own):
    if not isinstance(node, EXPRESSIONS):
        yield "L7"
    if isinstance(node, ast.Constant):
        yield from constant_faults(node.value)
    if isinstance(node, ast.Name):
        yield from name_faults(node.id)
    if isinstance(node, ast.Attribute):
        if node.attr in NEVER:
            yield "L17"
        if not PLAIN_NAME.match(node.attr) and node.attr != "__init__":
            yield "L12"
        if isinstance(node.ctx, ast.Store) and node.attr in PYTHONS_VALUES - VALUES_FREE:
            yield "L26"
    if isinstance(node, ast.Call) and isinstance(node.func, ast.Attribute):
        if node.func.attr not in METHODS | own | {"__init__"}:
            yield "L25"
    if isinstance(node, ast.Call):
        yield from keyword_faults(node)
    if isinstance(node, ast.ListComp) and len(node.generators) > 1:
        yield "L7"
    if isinstance(node, ast.BinOp):
        yield from operator_faults(node)
    if isinstance(node, ast.Compare):
        yield from comparison_faults(node)
    if isinstance(node, ast.FormattedValue) and (not isinstance(node.value, ast.Name) or node.format_spec):
        yield "L7"


def keyword_faults(node):
    given = {keyword.arg for keyword in node.keywords}
    if called_name(node) in OWN_NAMES and given - KEYWORDS.get(called_name(node), set()):
        yield "L22"
    if given and isinstance(node.func, ast.Attribute) and node.func.attr in METHODS:
        yield "L22"


def constant_faults(value):
    if isinstance(value, (float, complex, bytes)) or value is ...:
        yield "L7"
    if isinstance(value, str) and "%" in value:
        yield "L27"


def name_faults(name):
    if not PLAIN_NAME.match(name):
        yield "L12"
    if name in NEVER | NOT_AS_NAMES:
        yield "L17"
    if name in PYTHONS_NAMES and name not in OWN_NAMES:
        yield "L8"


def operator_faults(node):
    if isinstance(node.op, (ast.Div, ast.MatMult)):
        yield "L7"
    if isinstance(node.op, ast.Pow):
        if not isinstance(node.right, ast.Constant) or not 0 <= node.right.value <= 64:
            yield "L27"


def comparison_faults(node):
    sides = [node.left] + node.comparators
    for place, operator in enumerate(node.ops):
        pair = sides[place:place + 2]
        beside = any(isinstance(side, ast.Constant) and side.value in (None, True, False) for side in pair)
        if isinstance(operator, (ast.Is, ast.IsNot)) and not beside:
            yield "L20"
