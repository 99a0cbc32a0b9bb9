"""Finds code of the package that stands outside the language it keeps to.

`faults(sources)` takes a dict from file names to their texts and tells a list of texts. It looks
at what can be seen by the form alone; the rules on what is walked, handed on or taken round which
call (most of L15, L19, L22 to L24 and L28) are left to the reader.
"""

import ast
import builtins
import re

PACKAGE = "holdback"
ALLOWED_BUILTINS = set(
    "len range enumerate zip min max sum abs sorted reversed int str bool list tuple dict set "
    "frozenset isinstance ord repr any all divmod Exception ValueError TypeError KeyError "
    "IndexError LookupError ZeroDivisionError ArithmeticError OverflowError RuntimeError "
    "NotImplementedError AttributeError StopIteration".split()
)
ALLOWED_METHODS = set(
    "append clear copy count endswith extend find get index insert isalnum isalpha isdigit islower "
    "isspace isupper items join keys ljust lower lstrip partition pop remove replace reverse rfind "
    "rjust rpartition rsplit rstrip setdefault split splitlines startswith strip update upper "
    "values zfill bit_length".split()
)
ALLOWED_VALUES = set("count index title find get join lower upper split strip copy add".split())
DOUBLE_UNDERSCORES = set("__init__ __eq__ __repr__ __str__ __len__".split())
UNUSED_NAMES = set("register mro elements open input version_info with_traceback add_note format format_map".split())
WORDS = re.compile(
    r"\b(type|typing|typing_extensions|enum|Enum|IntEnum|StrEnum|Flag|IntFlag|Generic|Protocol|ABC|ABCMeta"
    r"|namedtuple|NamedTuple|TypedDict|TYPE_CHECKING|abstractmethod)\b|dataclass|overload|contextmanager"
)
FILE_NAME = re.compile(r"(__init__|[a-z][a-z0-9_]*)\.py")
ALLOWED_NODES = set(
    "Module FunctionDef ClassDef Return Assign AugAssign For While If Raise Try ImportFrom Expr Pass "
    "Break Continue BoolOp BinOp UnaryOp Lambda IfExp Dict Set ListComp Compare Call JoinedStr "
    "FormattedValue Constant Attribute Subscript Name List Tuple Slice comprehension ExceptHandler "
    "arguments arg keyword alias Load Store And Or Add Sub Mult FloorDiv Mod Pow LShift RShift BitOr "
    "BitXor BitAnd Invert Not UAdd USub Eq NotEq Lt LtE Gt GtE Is IsNot In NotIn".split()
)


def faults(sources):
    trees = {name: ast.parse(text) for name, text in sources.items()}
    own_methods = {method.name for tree in trees.values() for method in methods_of(tree)}
    found = []
    for name, text in sources.items():
        told = faults_of_text(name, text)
        told += faults_of_top(trees[name])
        told += faults_of_imports(trees, name)
        told += faults_of_bindings(trees[name])
        for node in ast.walk(trees[name]):
            told += faults_of_node(node, own_methods)
        found += [f"{name}:{line}: {what}" for line, what in told]
    return found + faults_of_values(trees, own_methods) + faults_of_circles(trees)


def methods_of(tree):
    classes = [node for node in tree.body if isinstance(node, ast.ClassDef)]
    return [part for one in classes for part in one.body if isinstance(part, ast.FunctionDef)]


def faults_of_text(name, text):
    found = []
    if not FILE_NAME.fullmatch(name):
        found.append((0, "L1 file name"))
    lines = text.split("\n")
    if len(lines) > 401:
        found.append((0, "L10 file of more than 400 lines"))
    for number, line in enumerate(lines, start=1):
        if len(line) > 120:
            found.append((number, "L10 line of more than 120 signs"))
        if any(not " " <= sign <= "~" for sign in line):
            found.append((number, "L14 sign"))
        if WORDS.search(line):
            found.append((number, "L17 word"))
    return found


def is_plain(node):
    if isinstance(node, (ast.List, ast.Tuple)):
        return all(is_plain(part) for part in node.elts)
    if isinstance(node, ast.Dict):
        return all(is_plain(part) for part in node.keys + node.values)
    if isinstance(node, ast.UnaryOp):
        return isinstance(node.op, ast.USub) and is_plain(node.operand)
    return isinstance(node, (ast.Constant, ast.Name))


def faults_of_top(tree):
    found = []
    for place, node in enumerate(tree.body):
        if isinstance(node, ast.Expr):
            right = place == 0 and isinstance(node.value, ast.Constant)
        elif isinstance(node, ast.Assign):
            right = isinstance(node.targets[0], ast.Name) and is_plain(node.value)
        else:
            right = isinstance(node, (ast.ImportFrom, ast.FunctionDef, ast.ClassDef))
        if not right:
            found.append((node.lineno, "L3 top of a module"))
    names = names_of_top(tree)
    found += [(0, f"L15 {name} bound twice") for name in sorted(set(names)) if names.count(name) > 1]
    return found


def names_of_top(tree):
    names = [node.name for node in tree.body if isinstance(node, (ast.FunctionDef, ast.ClassDef))]
    return names + [node.targets[0].id for node in tree.body if isinstance(node, ast.Assign)]


def imports_of(tree):
    return [node for node in ast.walk(tree) if isinstance(node, ast.ImportFrom)]


def file_of(module):
    return module.removeprefix(PACKAGE + ".") + ".py"


def faults_of_imports(trees, name):
    found = []
    for node in imports_of(trees[name]):
        module = node.module or ""
        drawn = trees.get(file_of(module))
        if node.level or not module.startswith(PACKAGE + ".") or drawn is None:
            found.append((node.lineno, "L2 import"))
        elif any(alias.name not in names_of_top(drawn) for alias in node.names):
            found.append((node.lineno, "L16 import of a name that the file does not define"))
    return found


def faults_of_circles(trees):
    drawn = {name: {file_of(node.module or "") for node in imports_of(tree)} for name, tree in trees.items()}
    for _ in drawn:
        for files in drawn.values():
            files.update(*[drawn.get(file, set()) for file in list(files)])
    return [f"{name}: L16 draws from itself" for name, files in drawn.items() if name in files]


def faults_of_bindings(tree):
    taken = set(dir(builtins)) | {node.name for node in tree.body if isinstance(node, ast.ClassDef)}
    taken |= {alias.asname or alias.name for node in imports_of(tree) for alias in node.names}
    bound = [(node.lineno, node.arg) for node in ast.walk(tree) if isinstance(node, ast.arg)]
    for node in ast.walk(tree):
        if isinstance(node, ast.Name) and isinstance(node.ctx, ast.Store):
            bound.append((node.lineno, node.id))
    return [(line, f"L15 {name} has a meaning already") for line, name in bound if name in taken]


def faults_of_values(trees, own_methods):
    found = []
    own = {name for kind in (str, int, list, dict, set, bytes, tuple) for name in dir(kind)}
    for file, tree in trees.items():
        for node in ast.walk(tree):
            if isinstance(node, ast.Attribute) and isinstance(node.ctx, ast.Store):
                if node.attr in own_methods:
                    found.append(f"{file}:{node.lineno}: L18 {node.attr} is a method too")
                if node.attr in own - ALLOWED_VALUES:
                    found.append(f"{file}:{node.lineno}: L26 value {node.attr}")
    return found


def faults_of_node(node, own_methods):
    kind = node.__class__.__name__
    found = []
    if kind not in ALLOWED_NODES:
        found.append(f"L6/L7 {kind}")
    for name in names_in(node):
        if name.startswith("_") and name not in DOUBLE_UNDERSCORES:
            found.append(f"L12 {name}")
        if name in UNUSED_NAMES:
            found.append(f"L17 {name}")
    check = CHECKS.get(kind)
    if check:
        found += check(node)
    if kind == "Call" and isinstance(node.func, ast.Attribute):
        if node.func.attr not in ALLOWED_METHODS | own_methods | DOUBLE_UNDERSCORES:
            found.append(f"L25 {node.func.attr}")
    return [(getattr(node, "lineno", 0), what) for what in found]


def names_in(node):
    told = [getattr(node, field, None) for field in ("id", "arg", "attr", "name", "asname")]
    return [name for name in told if isinstance(name, str)]


def check_function(node):
    found = []
    if node.decorator_list or node.args.vararg or node.args.kwarg or node.args.kwonlyargs:
        found.append("L4 function")
    if node.returns or any(arg.annotation for arg in node.args.args):
        found.append("L21 annotation")
    if node.end_lineno - node.lineno + 1 > 40:
        found.append("L10 function of more than 40 lines")
    return found


def check_class(node):
    plain = all(isinstance(part, (ast.FunctionDef, ast.Pass)) for part in node.body)
    names = [part.name for part in node.body if isinstance(part, ast.FunctionDef)]
    right = plain and len(names) == len(set(names)) and len(node.bases) <= 1
    return [] if right and not node.keywords and not node.decorator_list else ["L5 class"]


def check_try(node):
    named = all(isinstance(handler.type, (ast.Name, ast.Tuple)) for handler in node.handlers)
    return [] if named and not node.finalbody else ["L6 try"]


def check_compare(node):
    asked = any(isinstance(op, (ast.Is, ast.IsNot)) for op in node.ops)
    beside = [node.left] + node.comparators
    plain = any(isinstance(part, ast.Constant) and part.value in (None, True, False) for part in beside)
    return ["L20 is"] if asked and not plain else []


def check_constant(node):
    if isinstance(node.value, str) and "%" in node.value:
        return ["L27 percent sign"]
    plain = node.value is None or isinstance(node.value, (int, str))
    return [] if plain else ["L7 value"]


def check_name(node):
    bad = node.id in dir(builtins) and node.id not in ALLOWED_BUILTINS
    return [f"L8 {node.id}"] if bad else []


CHECKS = {
    "FunctionDef": check_function,
    "ClassDef": check_class,
    "Try": check_try,
    "Compare": check_compare,
    "Constant": check_constant,
    "Name": check_name,
    "For": lambda node: ["L6 else behind a loop"] if node.orelse else [],
    "While": lambda node: ["L6 else behind a loop"] if node.orelse else [],
    "Assign": lambda node: ["L6 two targets"] if len(node.targets) > 1 else [],
    "ListComp": lambda node: ["L7 two walks"] if len(node.generators) > 1 else [],
    "comprehension": lambda node: ["L7 two ifs"] if len(node.ifs) > 1 else [],
    "FormattedValue": lambda node: [] if isinstance(node.value, ast.Name) else ["L7 f-string"],
}
