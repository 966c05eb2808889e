"""Looks at a file of the package by those rules of the language that a look at the tree can see.

What it tells is a list of texts: the rule, the file and the row. It knows a part of the rules only.
"""

import ast
import builtins
import re

FROM = {
    "math": {"gcd", "lcm", "isqrt", "comb", "perm", "factorial"},
    "heapq": {"heappush", "heappop", "heapify", "heapreplace", "heappushpop"},
    "itertools": {"product", "combinations", "permutations", "chain", "accumulate", "pairwise", "islice",
                  "zip_longest"},
    "collections": {"defaultdict"},
    "__future__": {"annotations"},
}
BUILTINS = set("""len range enumerate zip min max sum abs sorted reversed int str bool bytes list tuple dict set
    frozenset isinstance ord repr any all divmod pow getattr hasattr setattr iter next map super property
    staticmethod classmethod Exception ValueError TypeError KeyError IndexError LookupError ZeroDivisionError
    ArithmeticError OverflowError RuntimeError NotImplementedError AttributeError StopIteration
    NotImplemented""".split())
METHODS = set("""__init__ __eq__ __repr__ __str__ __len__ __enter__ __exit__ __call__ __iter__ __lt__ __le__ __gt__
    __ge__ __ne__ __add__ __sub__ __mul__ __neg__ __contains__ __getitem__ __setitem__ __bool__""".split())
WORDS = set("""type typing typing_extensions enum Enum IntEnum StrEnum Flag IntFlag Generic Protocol ABC ABCMeta
    namedtuple NamedTuple TypedDict TYPE_CHECKING abstractmethod register mro elements open input law version_info
    with_traceback add_note""".split())
BARRED = (ast.Global, ast.AsyncFunctionDef, ast.AsyncFor, ast.AsyncWith, ast.Await, ast.Import, ast.Div)
AT_TOP = (ast.ImportFrom, ast.FunctionDef, ast.ClassDef, ast.Assign)
BUILT_IN_METHODS = set("""append clear copy count endswith extend find get index insert isalnum isalpha isdigit islower
    isspace isupper items join keys ljust lower lstrip partition pop remove replace reverse rfind rjust rpartition
    rsplit rstrip setdefault split splitlines startswith strip update upper values zfill bit_length
    removeprefix removesuffix""".split())
NO_ATTRIBUTES = set("""items keys values pop update append clear extend insert remove reverse setdefault sort args
    encode decode hex fromhex format format_map mro""".split())
TEXT_CALLS = {"__len__": ("len",), "__str__": ("str", "repr", "join"), "__repr__": ("str", "repr", "join")}
CAUGHT = {"Exception", "BaseException", "TypeError", "ArithmeticError", "OverflowError", "RuntimeError",
          "NotImplementedError", "AttributeError"}
SIGNS = re.compile("[ -~]*")
DOUBLE = re.compile("__")


def rows_of(text, name):
    """L10, L14: rows that are too long or have signs that may not stand there."""
    rows = text.split("\n")
    told = [f"L10 {name}:{at}" for at, row in enumerate(rows, 1) if len(row) > 120]
    told += [f"L14 {name}:{at}" for at, row in enumerate(rows, 1) if not SIGNS.fullmatch(row)]
    if len(rows) > 400:
        told.append(f"L10 {name}:{len(rows)}")
    return told


def top_of(tree, name):
    """L2, L3: what may stand outside of all defs, imports ahead of all else."""
    told = []
    begun = False
    for at, node in enumerate(tree.body):
        is_told = at == 0 and isinstance(node, ast.Expr) and isinstance(node.value, ast.Constant)
        if not is_told and not isinstance(node, AT_TOP):
            told.append(f"L3 {name}:{node.lineno}")
        if isinstance(node, ast.Assign):
            if len(node.targets) != 1 or not isinstance(node.targets[0], ast.Name):
                told.append(f"L3 {name}:{node.lineno}")
            if any(isinstance(each, (ast.Call, ast.ListComp)) for each in ast.walk(node.value)):
                told.append(f"L3 {name}:{node.lineno}")
        if isinstance(node, ast.ImportFrom) and begun:
            told.append(f"L2 {name}:{node.lineno}")
        begun = begun or not (is_told or isinstance(node, ast.ImportFrom))
    return told


def rules_of_import(node):
    """L2, L16: from where may be taken what."""
    if node.level != 0 or any(each.name == "*" for each in node.names):
        return ["L2"]
    if node.module.startswith("hintedpoints."):
        return []
    taken = {each.name for each in node.names if each.asname is None}
    return [] if len(taken) == len(node.names) and taken <= FROM.get(node.module, set()) else ["L2"]


def rules_of_def(node):
    """L4, L8, L10, L15: a def's length, decorators and name."""
    told = []
    if node.end_lineno - node.lineno >= 40:
        told.append("L10")
    if any(not isinstance(each, (ast.Name, ast.Attribute)) for each in node.decorator_list):
        told.append("L4")
    if DOUBLE.match(node.name) and node.name not in METHODS:
        told.append("L8")
    return told


def rules_of_constant(node):
    """L7, L27: numbers with a point, and signs in texts."""
    if isinstance(node.value, (float, complex)):
        return ["L7"]
    if isinstance(node.value, str) and chr(37) in node.value:
        return ["L27"]
    return []


def rules_of_name(node):
    """L8, L15: builtins that may not be used, and names that builtins have."""
    if isinstance(node.ctx, ast.Load):
        return ["L8"] if hasattr(builtins, node.id) and node.id not in BUILTINS else []
    return ["L15"] if hasattr(builtins, node.id) else []


def rules_of(node):
    """The rules that one node breaks."""
    if isinstance(node, BARRED):
        return ["L6"]
    if isinstance(node, ast.ImportFrom):
        return rules_of_import(node)
    if isinstance(node, ast.FunctionDef):
        return rules_of_def(node)
    if isinstance(node, ast.Constant):
        return rules_of_constant(node)
    if isinstance(node, ast.Name):
        return rules_of_name(node)
    if isinstance(node, ast.arg):
        return ["L15"] if hasattr(builtins, node.arg) else []
    if isinstance(node, ast.Call) and isinstance(node.func, ast.Name):
        takes_lists = node.func.id in ("any", "all", "min", "max", "sum", "sorted")
        return ["L7"] if takes_lists and any(isinstance(each, ast.GeneratorExp) for each in node.args) else []
    if isinstance(node, ast.ExceptHandler):
        names = {each.id for each in ast.walk(node.type) if isinstance(each, ast.Name)} if node.type else CAUGHT
        return ["L19"] if names & CAUGHT else []
    if isinstance(node, ast.Compare):
        return rules_of_compare(node)
    return []


def rules_of_compare(node):
    """L20: `is` beside None, True and False alone."""
    told = []
    for sign, thing in zip(node.ops, node.comparators):
        plain = isinstance(thing, ast.Constant) and (thing.value is None or isinstance(thing.value, bool))
        if isinstance(sign, (ast.Is, ast.IsNot)) and not plain:
            told.append("L20")
    return told


def names_of_file(tree):
    """The names of a file's imports and classes."""
    told = {each.name for each in tree.body if isinstance(each, ast.ClassDef)}
    for node in tree.body:
        if isinstance(node, ast.ImportFrom):
            told |= {each.name for each in node.names}
    return told


def shadows_of(tree, name):
    """L15: parameters and variables that are called as an import or a class of the file; imports that nothing reads."""
    told = []
    taken = names_of_file(tree)
    read = {node.id for node in ast.walk(tree) if isinstance(node, ast.Name) and isinstance(node.ctx, ast.Load)}
    imported = {each.name for node in tree.body if isinstance(node, ast.ImportFrom) for each in node.names}
    told += [f"L15 {name}:0 {each} is not read" for each in sorted(imported - read)]
    for node in ast.walk(tree):
        here = node.arg if isinstance(node, ast.arg) else None
        if isinstance(node, ast.Name) and isinstance(node.ctx, ast.Store):
            here = node.id
        if here in taken:
            told.append(f"L15 {name}:{node.lineno}")
    return told


def classes_of(tree, name):
    """L18, L26, L28: what a class calls its attributes and methods, and what its special methods return."""
    told = []
    for each in ast.walk(tree):
        if not isinstance(each, ast.ClassDef):
            continue
        methods = [node for node in each.body if isinstance(node, ast.FunctionDef)]
        names = [node.name for node in methods]
        kept = {node.attr for node in ast.walk(each) if isinstance(node, ast.Attribute)
                and isinstance(node.ctx, ast.Store)}
        if len(set(names)) < len(names) or kept & set(names):
            told.append(f"L18 {name}:{each.lineno}")
        if kept & NO_ATTRIBUTES:
            told.append(f"L26 {name}:{each.lineno}")
        for method in methods:
            told += [f"L28 {name}:{node.lineno}" for node in ast.walk(method)
                     if isinstance(node, ast.Return) and not may_return(method.name, node.value)]
    return told


def may_return(method, value):
    """May a method of this name return this?"""
    if method == "__init__":
        return False
    if method not in TEXT_CALLS or isinstance(value, (ast.Constant, ast.JoinedStr)):
        return True
    if not isinstance(value, ast.Call):
        return False
    called = value.func.attr if isinstance(value.func, ast.Attribute) else value.func.id
    return called in TEXT_CALLS[method]


def calls_of(tree, name, own):
    """L25: methods of builtin values that are called, `own` being the names of the package's methods."""
    told = []
    for node in ast.walk(tree):
        if isinstance(node, ast.Call) and isinstance(node.func, ast.Attribute):
            called = node.func.attr
            if called not in BUILT_IN_METHODS and called not in own and not called.startswith("__"):
                told.append(f"L25 {name}:{node.lineno}")
    return told


def methods_of(texts):
    """The names of all methods of all classes in some files' texts."""
    told = set()
    for text in texts:
        for each in ast.walk(ast.parse(text)):
            if isinstance(each, ast.ClassDef):
                told |= {node.name for node in each.body if isinstance(node, ast.FunctionDef)}
    return told


def words_of(tree, name):
    """L17: names that are not used at all."""
    told = []
    for node in ast.walk(tree):
        for field in ("id", "attr", "arg", "name"):
            if getattr(node, field, None) in WORDS:
                told.append(f"L17 {name}:{node.lineno}")
    return told


def broken(text, name, own=()):
    """All rules that a file's text breaks, as far as they are known here; own are the package's methods."""
    tree = ast.parse(text)
    told = rows_of(text, name) + top_of(tree, name) + words_of(tree, name) + shadows_of(tree, name)
    told += classes_of(tree, name) + calls_of(tree, name, own)
    for node in ast.walk(tree):
        told += [f"{rule} {name}:{getattr(node, 'lineno', 0)}" for rule in rules_of(node)]
    return told
