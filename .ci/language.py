"""Looks for code that LANGUAGE.md rules out, as far as single files and their syntax show it.

Use: python3 .ci/language.py PACKAGE
It tells each find by rule, file and line, and ends with 1 if there is one. What it does not see is still asked for.
"""

import ast
import builtins
import pathlib
import re
import sys

OWN_NAMES = set(
    "len range enumerate zip min max sum abs sorted reversed int str bool list tuple dict set frozenset isinstance "
    "ord repr any all divmod Exception ValueError TypeError KeyError IndexError LookupError ZeroDivisionError "
    "ArithmeticError OverflowError RuntimeError NotImplementedError AttributeError StopIteration".split()
)
OWN_METHODS = set(
    "append clear copy count endswith extend find get index insert isalnum isalpha isdigit islower isspace isupper "
    "items join keys ljust lower lstrip partition pop remove replace reverse rfind rjust rpartition rsplit rstrip "
    "setdefault split splitlines startswith strip update upper values zfill bit_length".split()
)
DUNDERS = {"__init__", "__eq__", "__repr__", "__str__", "__len__"}
BANNED_NAMES = set("register mro elements open input version_info with_traceback add_note".split())
BANNED_WORDS = re.compile(
    r"\b(type|typing|typing_extensions|enum|Enum|IntEnum|StrEnum|Flag|IntFlag|Generic|Protocol|ABC|ABCMeta|namedtuple"
    r"|NamedTuple|TypedDict|TYPE_CHECKING|abstractmethod)\b|dataclass|overload|contextmanager"
)
TOP_NODES = (ast.ImportFrom, ast.FunctionDef, ast.ClassDef, ast.Assign, ast.Expr)
NODES = (
    ast.Module, ast.ImportFrom, ast.alias, ast.FunctionDef, ast.ClassDef, ast.arguments, ast.arg, ast.Assign,
    ast.AugAssign, ast.If, ast.While, ast.For, ast.Return, ast.Break, ast.Continue, ast.Pass, ast.Raise, ast.Try,
    ast.ExceptHandler, ast.Expr, ast.Constant, ast.List, ast.Tuple, ast.Dict, ast.Set, ast.BinOp, ast.UnaryOp,
    ast.BoolOp, ast.Compare, ast.IfExp, ast.Call, ast.keyword, ast.Attribute, ast.Subscript, ast.Slice, ast.ListComp,
    ast.comprehension, ast.JoinedStr, ast.FormattedValue, ast.Lambda, ast.Name, ast.expr_context, ast.operator,
    ast.unaryop, ast.boolop, ast.cmpop,
)


def text_finds(text):
    """Finds in the bare text: signs, words, sizes."""
    rows = text.split("\n")
    if len(rows) > 401:
        yield 1, "L10", "more than 400 lines"
    for number, row in enumerate(rows, start=1):
        if len(row) > 120:
            yield number, "L10", "a line of more than 120 characters"
        if not all(" " <= sign <= "~" for sign in row):
            yield number, "L14", "a sign beyond those from the blank to ~"
        if BANNED_WORDS.search(row):
            yield number, "L17", f"the word {BANNED_WORDS.search(row).group()}"


def is_docstring(node):
    return isinstance(node.value, ast.Constant) and isinstance(node.value.value, str)


def top_finds(tree):
    """Finds at the file's top: what stands there, and each name once."""
    seen = set()
    for place, node in enumerate(tree.body):
        if not isinstance(node, TOP_NODES) or (isinstance(node, ast.Expr) and (place > 0 or not is_docstring(node))):
            yield node.lineno, "L3", "this does not stand at a file's top"
        names = [node.name] if isinstance(node, (ast.FunctionDef, ast.ClassDef)) else []
        if isinstance(node, ast.Assign):
            names = [target.id for target in node.targets if isinstance(target, ast.Name)]
        for name in names:
            if name in seen:
                yield node.lineno, "L15", f"{name} is bound twice"
            seen.add(name)


def statement_finds(node):
    """Finds in one statement."""
    if isinstance(node, ast.FunctionDef):
        if node.end_lineno - node.lineno + 1 > 40:
            yield "L10", "a function of more than 40 lines"
        if node.decorator_list or node.args.vararg or node.args.kwarg or node.args.kwonlyargs or node.args.posonlyargs:
            yield "L4", "only plain parameters, no decorator"
    if isinstance(node, ast.ClassDef):
        plain = all(isinstance(part, ast.FunctionDef) or isinstance(part, (ast.Expr, ast.Pass)) for part in node.body)
        if node.decorator_list or node.keywords or len(node.bases) > 1 or not plain:
            yield "L5", "a plain class with methods and at most one base"
    if isinstance(node, ast.Assign) and len(node.targets) > 1:
        yield "L6", "one target in an assignment"
    if isinstance(node, (ast.For, ast.While)) and node.orelse:
        yield "L6", "no else behind a loop"
    if isinstance(node, ast.Try) and node.finalbody:
        yield "L6", "no finally"
    if isinstance(node, ast.Expr) and not is_docstring(node) and not isinstance(node.value, ast.Call):
        yield "L6", "only a call stands by itself"
    if isinstance(node, ast.ExceptHandler) and (node.type is None or ast.unparse(node.type) in ("Exception", "TypeError")):
        yield "L19", "errors are taken by name, never Exception or TypeError"


def value_finds(node):
    """Finds in one value or expression."""
    if isinstance(node, ast.Constant) and isinstance(node.value, (float, complex, bytes)):
        yield "L7", "no float, no bytes"
    if isinstance(node, ast.Constant) and isinstance(node.value, str) and "%" in node.value:
        yield "L27", "no percent sign within a text"
    if isinstance(node, (ast.Div, ast.MatMult)):
        yield "L7", "this operator is not used"
    if isinstance(node, ast.ListComp) and (len(node.generators) > 1 or len(node.generators[0].ifs) > 1):
        yield "L7", "one for and at most one if"
    if isinstance(node, ast.FormattedValue) and not isinstance(node.value, ast.Name):
        yield "L7", "a plain name within an f-string's braces"
    if isinstance(node, ast.Compare):
        for operator, right in zip(node.ops, node.comparators):
            known = isinstance(right, ast.Constant) and right.value in (None, True, False)
            if isinstance(operator, (ast.Is, ast.IsNot)) and not known:
                yield "L20", "is stands beside None, True and False alone"


def bound_name(node):
    if isinstance(node, ast.Name) and isinstance(node.ctx, ast.Store):
        return node.id
    if isinstance(node, ast.arg):
        return node.arg
    if isinstance(node, (ast.FunctionDef, ast.ClassDef)):
        return node.name
    return None


def name_finds(node, methods):
    """Finds in the names that a node binds, reads or calls."""
    bound = bound_name(node)
    read = node.id if isinstance(node, ast.Name) else node.attr if isinstance(node, ast.Attribute) else None
    for name in (bound, read):
        if name is not None and name not in DUNDERS and (name.startswith("_") or not name.isascii()):
            yield "L12", f"{name} is no plain name"
        if name in BANNED_NAMES:
            yield "L17", f"{name} is not used"
    if bound is not None and hasattr(builtins, bound) and bound not in methods:
        yield "L15", f"{bound} is a name of Python's own"
    if isinstance(node, ast.Name) and hasattr(builtins, node.id) and node.id not in OWN_NAMES:
        yield "L8", f"{node.id} is not used"
    if isinstance(node, ast.Call) and isinstance(node.func, ast.Attribute):
        if node.func.attr not in OWN_METHODS | methods | DUNDERS:
            yield "L25", f"{node.func.attr} is no method that is used"


def import_finds(node, package, defined):
    """Finds in one import: only the package's own files, from the very file that defines the name."""
    if node.module == "__future__":
        return
    file = (node.module or "").partition(package + ".")[2]
    for alias in node.names:
        if node.level or alias.name not in defined.get(file, ()):
            yield "L16", f"{alias.name} is not drawn from the file that defines it"


def defined_names(tree):
    names = [bound_name(node) for node in tree.body]
    return {name for name in names if name} | {
        target.id for node in tree.body if isinstance(node, ast.Assign) for target in node.targets
        if isinstance(target, ast.Name)
    }


def circle_finds(trees, package):
    """Files that draw from one another, in whatever many steps."""
    drawn = {
        name: {node.module.partition(package + ".")[2] for node in ast.walk(tree) if isinstance(node, ast.ImportFrom)}
        for name, tree in trees.items()
    }
    for name in trees:
        reached, ahead = set(), list(drawn[name])
        while ahead:
            file = ahead.pop()
            if file not in reached:
                reached.add(file)
                ahead.extend(drawn.get(file, ()))
        if name in reached:
            yield f"{name}.py:1: L16: it draws from itself in some steps"


def file_finds(folder):
    """Files and folders that don't belong in the package."""
    if not (folder / "__init__.py").is_file():
        yield f"{folder}: L14: there is no __init__.py"
    for path in sorted(folder.rglob("*")):
        if "__pycache__" not in path.parts and not re.fullmatch(r"[a-z0-9_]+\.py", path.name):
            yield f"{path}: L1: only .py files with plain, lower-case names lie here"


def tree_finds(tree, package, defined, methods):
    yield from top_finds(tree)
    for node in ast.walk(tree):
        line = getattr(node, "lineno", 0)
        if not isinstance(node, NODES):
            yield line, "L6", f"{node.__class__.__name__} is not used"
        finds = [*statement_finds(node), *value_finds(node), *name_finds(node, methods)]
        if isinstance(node, ast.ImportFrom):
            finds.extend(import_finds(node, package, defined))
        for rule, words in finds:
            yield line, rule, words


def own_methods(trees):
    classes = [node for tree in trees.values() for node in tree.body if isinstance(node, ast.ClassDef)]
    return {part.name for node in classes for part in node.body if isinstance(part, ast.FunctionDef)}


def all_finds(folder):
    package = folder.name
    texts = {path.stem: path.read_text(encoding="utf-8") for path in sorted(folder.glob("*.py"))}
    trees = {name: ast.parse(text) for name, text in texts.items()}
    defined = {name: defined_names(tree) for name, tree in trees.items()}
    yield from file_finds(folder)
    yield from circle_finds(trees, package)
    for name, tree in trees.items():
        for line, rule, words in [*text_finds(texts[name]), *tree_finds(tree, package, defined, own_methods(trees))]:
            yield f"{name}.py:{line}: {rule}: {words}"


def main():
    finds = list(all_finds(pathlib.Path(sys.argv[1])))
    for find in finds:
        print(find)
    print(f"language: {len(finds)} finds")
    return 1 if finds else 0


if __name__ == "__main__":
    sys.exit(main())
