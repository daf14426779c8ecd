"""Looks through a module's text for what the rules L1 to L28 of the language rule out.

It sees most of what can be seen in one file's text; faults(text) tells them as a list of texts.
"""

import ast
import builtins
import re

PACKAGE = "treewithin"
OWN_NAMES = set(
    "len range enumerate zip min max sum abs sorted reversed int str bool list tuple dict set frozenset isinstance ord "
    "repr any all divmod Exception ValueError TypeError KeyError IndexError LookupError ZeroDivisionError "
    "ArithmeticError OverflowError RuntimeError NotImplementedError AttributeError StopIteration".split()
)
METHODS = set(
    "append clear copy count endswith extend find get index insert isalnum isalpha isdigit islower isspace isupper "
    "items join keys ljust lower lstrip partition pop remove replace reverse rfind rjust rpartition rsplit rstrip "
    "setdefault split splitlines startswith strip update upper values zfill bit_length".split()
)
WORDS_OUT = (
    "type typing typing_extensions enum Enum IntEnum StrEnum Flag IntFlag Generic Protocol ABC ABCMeta namedtuple "
    "NamedTuple TypedDict TYPE_CHECKING abstractmethod"
).split()
PARTS_OUT = ("dataclass", "overload", "contextmanager")
NAMES_OUT = set(
    "register mro elements open input version_info with_traceback add_note attrgetter breakpoint builtins compile "
    "copyright credits delattr dir eval exec exit gc getattr globals hasattr help id importlib license locals "
    "methodcaller os quit setattr super type vars sys chr".split()
)
ATTRIBUTES_OUT = set(
    "register mro elements open input version_info with_traceback add_note format format_map args encode sort".split()
)
SPECIAL = {"__init__", "__eq__", "__repr__", "__str__", "__len__"}
NODES = (
    ast.Module, ast.ImportFrom, ast.alias, ast.FunctionDef, ast.ClassDef, ast.arguments, ast.arg, ast.Lambda,
    ast.Assign, ast.AugAssign, ast.If, ast.While, ast.For, ast.Return, ast.Break, ast.Continue, ast.Pass, ast.Raise,
    ast.Try, ast.ExceptHandler, ast.Expr, ast.Constant, ast.List, ast.Tuple, ast.Dict, ast.Set, ast.BinOp, ast.UnaryOp,
    ast.BoolOp, ast.Compare, ast.IfExp, ast.Call, ast.keyword, ast.Attribute, ast.Subscript, ast.Slice, ast.ListComp,
    ast.comprehension, ast.JoinedStr, ast.FormattedValue, ast.Name, ast.Load, ast.Store, ast.And, ast.Or, ast.operator,
    ast.unaryop, ast.cmpop,
)
KEYWORDS = {
    "sorted": {"key", "reverse"}, "min": {"key", "default"}, "max": {"key", "default"}, "sum": {"start"},
    "enumerate": {"start"}, "zip": {"strict"},
}
WALKED = {"zip", "enumerate", "reversed", "range"}
WALKERS = {"list", "tuple", "dict", "sorted", "sum", "any", "all", "enumerate", "zip"}
VIEWS = {"items", "keys", "values"}


def sign_faults(text):
    """L10, L14, L17, L27: what is seen without the grammar."""
    for number, line in enumerate(text.split("\n"), 1):
        if len(line) > 120:
            yield f"L10 line {number} is too long"
        if any(not " " <= sign <= "~" for sign in line):
            yield f"L14 line {number} has another sign"
    if text.count("\n") > 400:
        yield "L10 the file is too long"
    for word in WORDS_OUT:
        if re.search(rf"\b{word}\b", text):
            yield f"L17 the word {word}"
    for part in PARTS_OUT:
        if part in text:
            yield f"L17 the word {part}"


def is_plain_value(node, known):
    """Whether a value may stand at a file's top."""
    if isinstance(node, ast.Constant):
        return True
    if isinstance(node, (ast.List, ast.Tuple)):
        return all(is_plain_value(part, known) for part in node.elts)
    if isinstance(node, ast.Dict):
        return all(part is not None and is_plain_value(part, known) for part in node.keys + node.values)
    if isinstance(node, ast.UnaryOp):
        return isinstance(node.op, ast.USub) and isinstance(node.operand, ast.Constant)
    return isinstance(node, ast.Name) and node.id in known


def top_faults(tree):
    """L2, L3, L15, L16: what stands at the file's top."""
    bound = []
    functions = set()
    for place, node in enumerate(tree.body):
        if isinstance(node, ast.ImportFrom):
            if node.level or not node.module.startswith(PACKAGE + ".") or any(name.asname for name in node.names):
                yield f"L2 line {node.lineno}"
            bound += [name.name for name in node.names]
        elif isinstance(node, (ast.FunctionDef, ast.ClassDef)):
            bound.append(node.name)
            functions.add(node.name)
        elif isinstance(node, ast.Assign):
            if not isinstance(node.targets[0], ast.Name) or not is_plain_value(node.value, functions):
                yield f"L3 line {node.lineno}"
            else:
                bound.append(node.targets[0].id)
        elif place or not isinstance(node, ast.Expr) or not isinstance(node.value, ast.Constant):
            yield f"L3 line {node.lineno}"
    for name in sorted(set(bound)):
        if bound.count(name) > 1:
            yield f"L15 {name} is bound twice"


def names_bound_within(function):
    """The parameters and locals of a def or lambda, and where they stand."""
    for node in ast.walk(function):
        if isinstance(node, ast.arg):
            yield node.arg, function.lineno
        elif isinstance(node, ast.Name) and isinstance(node.ctx, ast.Store):
            yield node.id, node.lineno
        elif isinstance(node, ast.FunctionDef) and node != function:
            yield node.name, node.lineno
        elif isinstance(node, ast.ExceptHandler) and node.name:
            yield node.name, node.lineno


def local_faults(tree):
    """L4, L10, L15: the defs, their parameters and locals."""
    imported = {name.name for node in tree.body if isinstance(node, ast.ImportFrom) for name in node.names}
    classes = {node.name for node in ast.walk(tree) if isinstance(node, ast.ClassDef)}
    out = imported | classes | set(dir(builtins))
    for node in ast.walk(tree):
        if not isinstance(node, (ast.FunctionDef, ast.Lambda)):
            continue
        if node.args.vararg or node.args.kwarg or node.args.kwonlyargs or node.args.posonlyargs:
            yield f"L4 line {node.lineno}"
        if any(not isinstance(value, ast.Constant) for value in node.args.defaults):
            yield f"L4 line {node.lineno}: a default that is not plain"
        for name, line in names_bound_within(node):
            if name in out:
                yield f"L15 line {line}: {name}"
        if isinstance(node, ast.FunctionDef):
            if node.decorator_list or node.returns or any(each.annotation for each in node.args.args):
                yield f"L4, L21 line {node.lineno}"
            if node.end_lineno - node.lineno + 1 > 40:
                yield f"L10 {node.name} is too long"


def name_faults(tree):
    """L8, L12, L17, L25, L26: names, methods and values."""
    methods = {
        each.name for node in tree.body if isinstance(node, ast.ClassDef)
        for each in node.body if isinstance(each, ast.FunctionDef)
    }
    for node in ast.walk(tree):
        names = [getattr(node, field) for field in ("id", "arg", "name", "attr") if isinstance(getattr(node, field, None), str)]
        for name in names:
            if name not in SPECIAL and not re.fullmatch(r"[A-Za-z][A-Za-z0-9_]*", name):
                yield f"L12 {name}"
            if name in NAMES_OUT and not isinstance(node, ast.Attribute):
                yield f"L17 {name}"
        if isinstance(node, ast.Name) and node.id in dir(builtins) and node.id not in OWN_NAMES:
            yield f"L8 line {node.lineno}: {node.id}"
        if isinstance(node, ast.Attribute) and node.attr in ATTRIBUTES_OUT:
            yield f"L17, L26 line {node.lineno}: {node.attr}"
        if isinstance(node, ast.Call) and isinstance(node.func, ast.Attribute):
            if node.func.attr not in METHODS | methods | SPECIAL:
                yield f"L25 line {node.lineno}: {node.func.attr}"


def grammar_faults(node):
    """L6, L7, L13, L19, L20, L22, L27: one node by itself."""
    if not isinstance(node, NODES) or isinstance(node, (ast.Div, ast.MatMult)):
        yield f"L6, L7 {type(node).__name__}"
    if isinstance(node, ast.Assign) and len(node.targets) != 1:
        yield "L6 several targets"
    if isinstance(node, (ast.While, ast.For)) and node.orelse:
        yield "L6 else behind a loop"
    if isinstance(node, ast.Try) and node.finalbody:
        yield "L6 finally"
    if isinstance(node, ast.ListComp) and (len(node.generators) > 1 or len(node.generators[0].ifs) > 1):
        yield "L7 a comprehension with more than one for or if"
    if isinstance(node, ast.Constant) and isinstance(node.value, (float, complex, bytes)):
        yield "L7 a value of another kind"
    if isinstance(node, ast.Constant) and isinstance(node.value, str) and chr(37) in node.value:
        yield "L27 a sign in a text"
    if isinstance(node, ast.FormattedValue) and (not isinstance(node.value, ast.Name) or node.format_spec):
        yield "L7 an f-string that is not plain"
    if isinstance(node, ast.BinOp) and isinstance(node.op, ast.Pow) and not isinstance(node.right, ast.Constant):
        yield "L27 a power that is not written"
    if isinstance(node, ast.Set) and len(node.elts) > 2:
        yield "L13 a set written out"
    if isinstance(node, ast.Compare) and any(isinstance(each, (ast.Is, ast.IsNot)) for each in node.ops):
        sides = [node.left] + node.comparators
        if not any(isinstance(side, ast.Constant) and side.value in (None, True, False) for side in sides):
            yield "L20 is"
    if isinstance(node, ast.ExceptHandler) and (node.type is None or ast.unparse(node.type) in ("Exception", "TypeError")):
        yield "L19 an except that takes too much"
    if isinstance(node, ast.Call) and isinstance(node.func, ast.Name) and node.func.id in OWN_NAMES:
        if any(each.arg not in KEYWORDS.get(node.func.id, ()) for each in node.keywords):
            yield "L22 a keyword"


def is_walked_at_once(call, parent):
    """Whether what is walked stands where L23 lets it stand."""
    if isinstance(parent, (ast.For, ast.comprehension)):
        return parent.iter == call
    if not isinstance(parent, ast.Call) or not parent.args or parent.args[0] != call:
        return False
    if isinstance(parent.func, ast.Name):
        return parent.func.id in WALKERS or (parent.func.id in ("min", "max") and len(parent.args) == 1)
    return parent.func.attr == "join" and isinstance(parent.func.value, ast.Constant)


def is_set_at_once(parent):
    """Whether a set stands where L24 lets it stand."""
    if isinstance(parent, ast.Call) and isinstance(parent.func, ast.Name):
        return parent.func.id in ("sorted", "len") and not parent.keywords
    return isinstance(parent, (ast.Compare, ast.BinOp))


def place_faults(tree):
    """L22 to L25: where a call or a name may stand."""
    for parent in ast.walk(tree):
        for child in ast.iter_child_nodes(parent):
            if isinstance(child, ast.Set) and not is_set_at_once(parent):
                yield f"L24 line {child.lineno}"
            if isinstance(child, ast.Attribute) and child.attr in METHODS - {"count", "index"}:
                if not (isinstance(parent, ast.Call) and parent.func == child):
                    yield f"L25 line {child.lineno}"
            if not isinstance(child, ast.Call):
                continue
            if isinstance(child.func, ast.Name) and child.func.id in ("set", "frozenset") and not is_set_at_once(parent):
                yield f"L24 line {child.lineno}"
            view = isinstance(child.func, ast.Attribute) and child.func.attr in VIEWS
            if view or (isinstance(child.func, ast.Name) and child.func.id in WALKED):
                if not is_walked_at_once(child, parent):
                    yield f"L23 line {child.lineno}"


def faults(text):
    """What the rules rule out in a module's text."""
    tree = ast.parse(text)
    told = list(sign_faults(text)) + list(top_faults(tree)) + list(local_faults(tree)) + list(name_faults(tree))
    for node in ast.walk(tree):
        told += [f"{fault}, line {getattr(node, 'lineno', '?')}" for fault in grammar_faults(node)]
    return told + list(place_faults(tree))


def drawn_from(text):
    """The pairs (module, name) that a module's text imports."""
    return [
        (node.module.split(".")[1], name.name)
        for node in ast.parse(text).body if isinstance(node, ast.ImportFrom) for name in node.names
    ]


def names_at_top(text):
    """The names that a module's text defines itself at its top."""
    told = set()
    for node in ast.parse(text).body:
        if isinstance(node, (ast.FunctionDef, ast.ClassDef)):
            told.add(node.name)
        elif isinstance(node, ast.Assign):
            told.add(node.targets[0].id)
    return told
