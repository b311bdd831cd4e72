"""Finds what in a file of the package lies outside the small part of Python that it keeps to.

Not every rule is looked at, only those that can be seen from one file's own text.
"""

import ast
import builtins
import re

PACKAGE = "everyplace"

OWN_NAMES = set("""
len range enumerate zip min max sum abs sorted reversed int str bool list tuple dict set frozenset isinstance ord repr
any all divmod Exception ValueError TypeError KeyError IndexError LookupError ZeroDivisionError ArithmeticError
OverflowError RuntimeError NotImplementedError AttributeError StopIteration
""".split())

OWN_METHODS = set("""
append clear copy count endswith extend find get index insert isalnum isalpha isdigit islower isspace isupper items
join keys ljust lower lstrip partition pop remove replace reverse rfind rjust rpartition rsplit rstrip setdefault split
splitlines startswith strip update upper values zfill bit_length
""".split())

NO_NAMES = set("""
register mro elements open input version_info with_traceback add_note attrgetter breakpoint builtins compile copyright
credits delattr dir eval exec exit gc getattr globals hasattr help id importlib license locals methodcaller os quit
setattr super type vars sys
""".split())

NO_WORDS = re.compile(
    r"\b(type|typing|typing_extensions|enum|Enum|IntEnum|StrEnum|Flag|IntFlag|Generic|Protocol|ABC|ABCMeta|namedtuple"
    r"|NamedTuple|TypedDict|TYPE_CHECKING|abstractmethod)\b|dataclass|overload|contextmanager")

UNDERSCORED = ("__init__", "__eq__", "__repr__", "__str__", "__len__")

STATEMENTS = (
    ast.Assign, ast.AugAssign, ast.If, ast.While, ast.For, ast.Return, ast.Break, ast.Continue, ast.Pass, ast.Raise,
    ast.Try, ast.Expr, ast.FunctionDef, ast.ClassDef, ast.ImportFrom)

EXPRESSIONS = (
    ast.Constant, ast.List, ast.Tuple, ast.Dict, ast.Set, ast.BinOp, ast.UnaryOp, ast.BoolOp, ast.Compare, ast.IfExp,
    ast.Call, ast.Attribute, ast.Subscript, ast.Slice, ast.ListComp, ast.Name, ast.Lambda, ast.JoinedStr,
    ast.FormattedValue)


def size_faults(text, tree):
    lines = text.split("\n")
    if len(lines) - 1 > 400:
        yield "L10 the file is too long"
    for number, line in enumerate(lines, 1):
        if len(line) > 120:
            yield f"L10 line {number} is too long"
        if any(not " " <= sign <= "~" for sign in line):
            yield f"L14 line {number} has a sign that is out"
        if NO_WORDS.search(line):
            yield f"L17 line {number} has a word that is out"
    for node in ast.walk(tree):
        if isinstance(node, ast.FunctionDef) and node.end_lineno - node.lineno + 1 > 40:
            yield f"L10 {node.name} is too long"


def is_docstring(node):
    return isinstance(node, ast.Expr) and isinstance(node.value, ast.Constant) and isinstance(node.value.value, str)


def top_faults(tree):
    bound = []
    for place, node in enumerate(tree.body):
        if isinstance(node, ast.ImportFrom):
            bound.extend(alias.asname or alias.name for alias in node.names)
        elif isinstance(node, (ast.FunctionDef, ast.ClassDef)):
            bound.append(node.name)
        elif isinstance(node, ast.Assign) and isinstance(node.targets[0], ast.Name):
            bound.append(node.targets[0].id)
        elif not (place == 0 and is_docstring(node)):
            yield f"L3 line {node.lineno} doesn't belong at the top"
    for name in sorted(set(bound)):
        if bound.count(name) > 1:
            yield f"L15 {name} is bound twice"


def import_faults(tree):
    for node in ast.walk(tree):
        if isinstance(node, ast.ImportFrom):
            if node not in tree.body:
                yield f"L2 line {node.lineno}: not at the top"
            if node.level != 0 or not node.module.startswith(PACKAGE + "."):
                yield f"L2 line {node.lineno}: not the package's own"
            if any(alias.name == "*" for alias in node.names):
                yield f"L2 line {node.lineno}: all names at once"


def statement_faults(node):
    if not isinstance(node, STATEMENTS):
        yield "L6 a statement that is out"
    if isinstance(node, ast.Assign) and len(node.targets) != 1:
        yield "L6 several targets"
    if isinstance(node, (ast.For, ast.While)) and node.orelse:
        yield "L6 else behind a loop"
    if isinstance(node, ast.Try) and node.finalbody:
        yield "L6 finally"
    if isinstance(node, (ast.FunctionDef, ast.ClassDef)) and node.decorator_list:
        yield "L4 a decorator"
    if isinstance(node, ast.ClassDef):
        if len(node.bases) > 1 or node.keywords:
            yield "L5 more than one base"
        if any(not isinstance(part, (ast.FunctionDef, ast.Pass)) and not is_docstring(part) for part in node.body):
            yield "L5 a value in the class body"
    if isinstance(node, ast.Try):
        for handler in node.handlers:
            names = [part.id for part in ast.walk(handler.type or handler) if isinstance(part, ast.Name)]
            if handler.type is None or "Exception" in names or "TypeError" in names:
                yield "L19 a handler that is out"


def argument_faults(arguments):
    if arguments.vararg or arguments.kwarg or arguments.kwonlyargs or arguments.posonlyargs:
        yield "L4 parameters that are not plain"
    for argument in arguments.args:
        yield from name_faults(argument.arg)
        if hasattr(builtins, argument.arg):
            yield f"L15 {argument.arg} is a name of Python's own"


def name_faults(name):
    if name in NO_NAMES:
        yield f"L17 {name}"
    if name.startswith("_") and name not in UNDERSCORED or not name.isascii():
        yield f"L12 {name}"


def constant_faults(value):
    if isinstance(value, (float, bytes, complex)) or value is Ellipsis:
        yield "L7 a value that is out"
    if isinstance(value, str) and "%" in value:
        yield "L27 the sign for hundredths in a text"


def power_faults(node):
    if isinstance(node.op, ast.Div):
        yield "L7 /"
    if isinstance(node.op, ast.Pow):
        right = node.right
        if not (isinstance(right, ast.Constant) and isinstance(right.value, int) and 0 <= right.value <= 64):
            yield "L27 an exponent that is not written"


def expression_faults(node, own):
    if not isinstance(node, EXPRESSIONS):
        yield "L7 an expression that is out"
    if isinstance(node, ast.Constant):
        yield from constant_faults(node.value)
    if isinstance(node, ast.BinOp):
        yield from power_faults(node)
    if isinstance(node, ast.ListComp):
        if len(node.generators) != 1 or len(node.generators[0].ifs) > 1:
            yield "L7 a list comprehension with more than one for or if"
    if isinstance(node, ast.Compare):
        for op, side in zip(node.ops, node.comparators):
            plain = isinstance(side, ast.Constant) and (side.value is None or isinstance(side.value, bool))
            if isinstance(op, (ast.Is, ast.IsNot)) and not plain:
                yield "L20 is"
    if isinstance(node, ast.Name):
        yield from name_faults(node.id)
        if hasattr(builtins, node.id) and (node.id not in OWN_NAMES or not isinstance(node.ctx, ast.Load)):
            yield f"L8 {node.id}"
    if isinstance(node, ast.Attribute):
        yield from name_faults(node.attr)
        if node.attr not in OWN_METHODS and node.attr not in own:
            yield f"L25 {node.attr}"


def called(node):
    return node.func.id if isinstance(node, ast.Call) and isinstance(node.func, ast.Name) else None


def is_plain(node):
    """A plain value, as the top of a file may hold."""
    if isinstance(node, (ast.List, ast.Tuple)):
        return all(map(is_plain, node.elts))
    if isinstance(node, ast.Dict):
        return all(map(is_plain, node.keys + node.values))
    if isinstance(node, ast.UnaryOp) and isinstance(node.op, ast.USub):
        return isinstance(node.operand, ast.Constant)
    return isinstance(node, (ast.Constant, ast.Name))


def value_faults(tree):
    for node in tree.body:
        if isinstance(node, ast.Assign) and not is_plain(node.value):
            yield f"L3 line {node.lineno}: no plain value"
        if isinstance(node, ast.Assign) and isinstance(node.value, (ast.List, ast.Dict)):
            if any(isinstance(part, (ast.List, ast.Dict)) for part in list(ast.walk(node.value))[1:]):
                yield f"L15 line {node.lineno}: a list or dict within another"


def hiding_faults(tree):
    """Parameters and locals that are called like an import or a class of the file."""
    taken = {node.name for node in tree.body if isinstance(node, ast.ClassDef)}
    for node in tree.body:
        if isinstance(node, ast.ImportFrom):
            taken.update(alias.asname or alias.name for alias in node.names)
    for node in ast.walk(tree):
        if isinstance(node, ast.arg) and node.arg in taken:
            yield f"L15 {node.arg} hides an import or a class, line {node.lineno}"
        if isinstance(node, ast.Name) and isinstance(node.ctx, ast.Store) and node.id in taken:
            yield f"L15 {node.id} hides an import or a class, line {node.lineno}"


def is_walked(node, parent):
    """Whether what can be walked but once is walked where it stands."""
    if isinstance(parent, (ast.For, ast.comprehension)):
        return parent.iter is node
    if not isinstance(parent, ast.Call) or parent.args[:1] != [node]:
        return False
    if called(parent) in ("min", "max"):
        return len(parent.args) == 1
    if isinstance(parent.func, ast.Attribute):
        return parent.func.attr == "join" and isinstance(parent.func.value, ast.Constant)
    return called(parent) in ("list", "tuple", "dict", "sorted", "sum", "any", "all", "enumerate", "zip")


def is_set_in_place(node, parent):
    if isinstance(parent, ast.Compare):
        return all(isinstance(op, (ast.In, ast.NotIn, ast.Eq, ast.NotEq)) for op in parent.ops)
    if isinstance(parent, ast.BinOp):
        return isinstance(parent.op, (ast.Sub, ast.BitAnd, ast.BitOr, ast.BitXor))
    return called(parent) in ("sorted", "len") and not parent.keywords


KEYWORDS = {
    "sorted": ("key", "reverse"), "min": ("key", "default"), "max": ("key", "default"), "sum": ("start",),
    "enumerate": ("start",), "zip": ("strict",),
}


def call_faults(tree, own):
    for parent in ast.walk(tree):
        for node in ast.iter_child_nodes(parent):
            if isinstance(node, ast.Attribute) and node.attr in OWN_METHODS and node.attr not in own:
                if not (isinstance(parent, ast.Call) and parent.func is node) and not isinstance(parent, ast.keyword):
                    yield f"L25 {node.attr} is handed on, line {node.lineno}"
            if isinstance(node, ast.Name) and node.id in OWN_NAMES and not node.id[0].isupper():
                used = isinstance(parent, (ast.Call, ast.keyword, ast.Tuple))
                if not used or called(parent) not in (node.id, "isinstance", None):
                    yield f"L22 {node.id} is kept, line {node.lineno}"
            if not isinstance(node, ast.Call):
                continue
            method = node.func.attr if isinstance(node.func, ast.Attribute) else None
            once = called(node) in ("zip", "enumerate", "reversed", "range") or method in ("items", "keys", "values")
            if once and not is_walked(node, parent):
                yield f"L23 not walked at once, line {node.lineno}"
            if called(node) in ("set", "frozenset") and not is_set_in_place(node, parent):
                yield f"L24 a set is kept, line {node.lineno}"
            if called(node) in OWN_NAMES or method in OWN_METHODS and method not in own:
                for keyword in node.keywords:
                    if keyword.arg not in KEYWORDS.get(called(node), ()):
                        yield f"L22 the keyword {keyword.arg}, line {node.lineno}"


def own_names(tree):
    """Methods of the file's classes, and values given to an object in it."""
    names = set()
    for node in ast.walk(tree):
        if isinstance(node, ast.FunctionDef):
            names.add(node.name)
        if isinstance(node, ast.Attribute) and isinstance(node.ctx, ast.Store):
            names.add(node.attr)
    return names


def faults_in(text):
    tree = ast.parse(text)
    own = own_names(tree)
    found = list(size_faults(text, tree)) + list(top_faults(tree)) + list(import_faults(tree))
    found += list(value_faults(tree)) + list(hiding_faults(tree)) + list(call_faults(tree, own))
    for node in ast.walk(tree):
        if isinstance(node, ast.stmt):
            found.extend(f"{fault}, line {node.lineno}" for fault in statement_faults(node))
        if isinstance(node, ast.expr):
            found.extend(f"{fault}, line {node.lineno}" for fault in expression_faults(node, own))
        if isinstance(node, ast.arguments):
            found.extend(argument_faults(node))
        if isinstance(node, (ast.FunctionDef, ast.ClassDef)):
            found.extend(f"{fault}, line {node.lineno}" for fault in name_faults(node.name))
    return found
