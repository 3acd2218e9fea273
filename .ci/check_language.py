"""Looks for breaches of the rules of LANGUAGE.md that the text and the syntax tree show.

It finds only what is plain to see; the rules themselves stand in LANGUAGE.md.
"""

import ast
import builtins
import re
import sys
from pathlib import Path

PACKAGE = Path(__file__).resolve().parent.parent / "nestweigh"
LIBRARY = {
    "math": "gcd lcm isqrt comb perm factorial".split(),
    "heapq": "heappush heappop heapify heapreplace heappushpop".split(),
    "itertools": "chain accumulate pairwise islice zip_longest".split(),
    "collections": ["defaultdict"],
}
BUILTINS = (
    "len range enumerate zip min max sum abs sorted reversed int str bool bytes list tuple dict set isinstance ord"
    " repr any all divmod pow getattr hasattr setattr iter next map super property staticmethod classmethod Exception"
    " ValueError TypeError KeyError IndexError LookupError ZeroDivisionError ArithmeticError OverflowError"
    " RuntimeError NotImplementedError AttributeError StopIteration NotImplemented object"
).split()
BARRED_WORDS = (
    "typing typing_extensions enum Enum IntEnum StrEnum Flag IntFlag Generic Protocol ABC ABCMeta namedtuple"
    " NamedTuple TypedDict TYPE_CHECKING abstractmethod register mro elements open input law version_info"
    " with_traceback add_note attrgetter breakpoint compile copyright credits delattr dir eval exec exit gc globals"
    " help id importlib license locals methodcaller os quit vars type"
).split()
NO_NODES = (
    ast.Global, ast.AsyncFunctionDef, ast.AsyncFor, ast.AsyncWith, ast.Await, ast.Div, ast.MatMult, ast.MatchMapping,
)
PLAIN = (ast.Constant, ast.List, ast.Tuple, ast.Dict, ast.Name, ast.Load, ast.UnaryOp, ast.USub, ast.BinOp, ast.Add)
DECORATORS = ("property", "classmethod", "staticmethod")
LISTS_ONLY = ("any", "all", "min", "max", "sum", "sorted")


def check_text(text):
    """Faults of the lines and characters of a file: L10 and L14."""
    lines = text.split("\n")
    if len(lines) > 400:
        yield 1, "L10 more than 399 lines"
    for number, line in enumerate(lines, 1):
        if len(line) > 120:
            yield number, "L10 more than 120 characters"
        if re.search("[^ -~]", line):
            yield number, "L14 a character that is not one from the space to ~"
        if "_wall" in line or "_WallAttr" in line:
            yield number, "L12 a barred word"


def check_imports(tree):
    """Faults of the imports and of the module level: L2, L3 and L16."""
    for node in ast.walk(tree):
        if isinstance(node, ast.Import):
            yield node.lineno, "L16 a module is imported as a name"
        elif isinstance(node, ast.ImportFrom):
            own = node.level == 0 and node.module.startswith("nestweigh.")
            for name in node.names:
                if name.asname is not None or name.name == "*":
                    yield node.lineno, "L2 an import with another name or a star"
                if not own and name.name not in LIBRARY.get(node.module, []):
                    yield node.lineno, f"L2 {node.module}.{name.name}"
                if own and not defines(node.module, name.name):
                    yield node.lineno, f"L16 {name.name} is not defined in {node.module}"
    for node in tree.body:
        if isinstance(node, ast.Assign):
            if len(node.targets) != 1 or not isinstance(node.targets[0], ast.Name):
                yield node.lineno, "L3 more than one name in one statement"
            if not all(isinstance(part, PLAIN) for part in ast.walk(node.value)):
                yield node.lineno, "L3 a value that is not plain"
        elif isinstance(node, ast.Expr):
            if not isinstance(node.value, ast.Constant):
                yield node.lineno, "L3 a statement at module level"
        elif not isinstance(node, (ast.Import, ast.ImportFrom, ast.FunctionDef, ast.ClassDef)):
            yield node.lineno, "L3 a statement at module level"


def defines(module, name):
    """Tell whether the module of the package binds the name itself."""
    path = PACKAGE.parent / (module.replace(".", "/") + ".py")
    for node in ast.parse(path.read_text()).body if path.exists() else []:
        if isinstance(node, (ast.FunctionDef, ast.ClassDef)) and node.name == name:
            return True
        if isinstance(node, ast.Assign) and node.targets[0].id == name:
            return True
    return False


def check_names(tree):
    """Faults of names: L8, L12, L15 and L17."""
    bound = [name.name for node in ast.walk(tree) if isinstance(node, ast.ImportFrom) for name in node.names]
    bound += [node.name for node in ast.walk(tree) if isinstance(node, ast.ClassDef)]
    for node in ast.walk(tree):
        name, stored = None, False
        if isinstance(node, ast.Name):
            name, stored = node.id, isinstance(node.ctx, ast.Store)
        elif isinstance(node, ast.arg):
            name, stored = node.arg, True
        elif isinstance(node, (ast.FunctionDef, ast.ClassDef)):
            name = node.name
        elif isinstance(node, ast.Attribute):
            name = node.attr
        if name is None:
            continue
        if name in BARRED_WORDS and not isinstance(node, ast.Attribute):
            yield node.lineno, f"L17 {name}"
        if isinstance(node, ast.Name) and name in vars(builtins) and name not in BUILTINS:
            yield node.lineno, f"L8 {name}"
        if stored and (name in vars(builtins) or name in bound):
            yield node.lineno, f"L15 {name} has another meaning already"


def check_nodes(tree):
    """Faults of statements and expressions: L4, L6, L7, L10, L20, L25 and L27."""
    for node in ast.walk(tree):
        if isinstance(node, NO_NODES):
            yield getattr(node, "lineno", 0), f"L6 or L7 {type(node).__name__}"
        elif isinstance(node, ast.Constant) and isinstance(node.value, (float, complex)):
            yield node.lineno, "L7 a float"
        elif isinstance(node, ast.Constant) and isinstance(node.value, str) and re.search("[^\n\t -~]|%", node.value):
            yield node.lineno, "L27 a character that may not stand in a string"
        elif isinstance(node, ast.FunctionDef):
            if node.end_lineno - node.lineno >= 40:
                yield node.lineno, "L10 a function of more than 40 lines"
            for mark in node.decorator_list:
                setter = isinstance(mark, ast.Attribute) and mark.attr == "setter"
                if not setter and getattr(mark, "id", None) not in DECORATORS:
                    yield node.lineno, "L4 a decorator"
        elif isinstance(node, ast.Compare):
            for sign, side in zip(node.ops, node.comparators):
                if isinstance(sign, (ast.Is, ast.IsNot)) and not isinstance(side, (ast.Constant, ast.Name)):
                    yield node.lineno, "L20 is"
        elif isinstance(node, ast.Call):
            name = getattr(node.func, "id", getattr(node.func, "attr", ""))
            if name == "sort":
                yield node.lineno, "L25 .sort() in a package with __eq__"
            if name in LISTS_ONLY and any(isinstance(part, ast.GeneratorExp) for part in node.args):
                yield node.lineno, f"L7 {name} of a generator in a package with __eq__"


def main():
    """Print each breach, and end with 1 if there is one."""
    found = []
    for path in sorted(PACKAGE.iterdir()):
        if path.name == "__pycache__":
            continue
        if not re.fullmatch("[a-z0-9_]+[.]py", path.name):
            found.append((path.name, 0, "L1 a file with another ending or name"))
            continue
        text = path.read_bytes().decode("ascii")
        tree = ast.parse(text)
        for check, given in ((check_text, text), (check_imports, tree), (check_names, tree), (check_nodes, tree)):
            found += [(path.name, line, fault) for line, fault in check(given)]
    for name, line, fault in found:
        print(f"nestweigh/{name}:{line}: {fault}")
    sys.exit(1 if found else 0)


if __name__ == "__main__":
    main()
