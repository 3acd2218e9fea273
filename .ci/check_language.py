"""Looks for breaches of the rules of LANGUAGE.md that the text and the syntax tree show.

It finds only what is plain to see; the rules themselves stand in LANGUAGE.md.
"""

import ast
import builtins
import re
import sys
from pathlib import Path

PACKAGE = Path(__file__).resolve().parent.parent / "nestweigh"
LIBRARY = {
    "math": "gcd lcm isqrt comb perm factorial".split(),
    "heapq": "heappush heappop heapify heapreplace heappushpop".split(),
    "itertools": "chain accumulate pairwise islice zip_longest".split(),
    "collections": ["defaultdict"],
}
BUILTINS = (
    "len range enumerate zip min max sum abs sorted reversed int str bool bytes list tuple dict set isinstance ord"
    " repr any all divmod pow getattr hasattr setattr iter next map super property staticmethod classmethod Exception"
    " ValueError TypeError KeyError IndexError LookupError ZeroDivisionError ArithmeticError OverflowError"
    " RuntimeError NotImplementedError AttributeError StopIteration NotImplemented object"
).split()
BARRED_WORDS = (
    "typing typing_extensions enum Enum IntEnum StrEnum Flag IntFlag Generic Protocol ABC ABCMeta namedtuple"
    " NamedTuple TypedDict TYPE_CHECKING abstractmethod register mro elements open input law version_info"
    " with_traceback add_note attrgetter breakpoint compile copyright credits delattr dir eval exec exit gc globals"
    " help id importlib license locals methodcaller os quit vars type"
).split()
NO_NODES = (
    ast.Global, ast.AsyncFunctionDef, ast.AsyncFor, ast.AsyncWith, ast.Await, ast.Div, ast.MatMult, ast.MatchMapping,
)
PLAIN = (ast.Constant, ast.List, ast.Tuple, ast.Dict, ast.Name, ast.Load, ast.UnaryOp, ast.USub, ast.BinOp, ast.Add)
DECORATORS = ("property", "classmethod", "staticmethod")
LISTS_ONLY = ("any", "all", "min", "max", "sum", "sorted")
CHANGES = (
    "append add clear discard extend insert pop remove reverse setdefault sort update heappush heappop heapify".split()
)
LOOPS = (ast.For, ast.ListComp, ast.SetComp, ast.DictComp, ast.GeneratorExp)


def check_text(text):
    """Faults of the lines and characters of a file: L10 and L14."""
    lines = text.split("\n")
    if len(lines) > 400:
        yield 1, "L10 more than 399 lines"
    for number, line in enumerate(lines, 1):
        if len(line) > 120:
            yield number, "L10 more than 120 characters"
        if re.search("[^ -~]", line):
            yield number, "L14 a character that is not one from the space to ~"
        if "_wall" in line or "_WallAttr" in line:
            yield number, "L12 a barred word"


def check_imports(tree):
    """Faults of the imports and of the module level: L2, L3 and L16."""
    for node in ast.walk(tree):
        if isinstance(node, ast.Import):
            yield node.lineno, "L16 a module is imported as a name"
        elif isinstance(node, ast.ImportFrom):
            own = node.level == 0 and node.module.startswith("nestweigh.")
            for name in node.names:
                if name.asname is not None or name.name == "*":
                    yield node.lineno, "L2 an import with another name or a star"
                if not own and name.name not in LIBRARY.get(node.module, []):
                    yield node.lineno, f"L2 {node.module}.{name.name}"
                if own and not defines(node.module, name.name):
                    yield node.lineno, f"L16 {name.name} is not defined in {node.module}"
    for node in tree.body:
        if isinstance(node, ast.Assign):
            if len(node.targets) != 1 or not isinstance(node.targets[0], ast.Name):
                yield node.lineno, "L3 more than one name in one statement"
            if not all(isinstance(part, PLAIN) for part in ast.walk(node.value)):
                yield node.lineno, "L3 a value that is not plain"
        elif isinstance(node, ast.Expr):
            if not isinstance(node.value, ast.Constant):
                yield node.lineno, "L3 a statement at module level"
        elif not isinstance(node, (ast.Import, ast.ImportFrom, ast.FunctionDef, ast.ClassDef)):
            yield node.lineno, "L3 a statement at module level"


def defines(module, name):
    """Tell whether the module of the package binds the name itself."""
    path = PACKAGE.parent / (module.replace(".", "/") + ".py")
    for node in ast.parse(path.read_text()).body if path.exists() else []:
        if isinstance(node, (ast.FunctionDef, ast.ClassDef)) and node.name == name:
            return True
        if isinstance(node, ast.Assign) and node.targets[0].id == name:
            return True
    return False


def check_names(tree):
    """Faults of names: L8, L12, L15 and L17."""
    bound = [name.name for node in ast.walk(tree) if isinstance(node, ast.ImportFrom) for name in node.names]
    bound += [node.name for node in ast.walk(tree) if isinstance(node, ast.ClassDef)]
    for node in ast.walk(tree):
        name, stored = None, False
        if isinstance(node, ast.Name):
            name, stored = node.id, isinstance(node.ctx, ast.Store)
        elif isinstance(node, ast.arg):
            name, stored = node.arg, True
        elif isinstance(node, (ast.FunctionDef, ast.ClassDef)):
            name = node.name
        elif isinstance(node, ast.Attribute):
            name = node.attr
        if name is None:
            continue
        if name in BARRED_WORDS and not isinstance(node, ast.Attribute):
            yield node.lineno, f"L17 {name}"
        if isinstance(node, ast.Name) and name in vars(builtins) and name not in BUILTINS:
            yield node.lineno, f"L8 {name}"
        if stored and (name in vars(builtins) or name in bound):
            yield node.lineno, f"L15 {name} has another meaning already"


def check_nodes(tree):
    """Faults of statements and expressions: L4, L6, L7, L10, L20, L25 and L27."""
    for node in ast.walk(tree):
        if isinstance(node, NO_NODES):
            yield getattr(node, "lineno", 0), f"L6 or L7 {type(node).__name__}"
        elif isinstance(node, ast.Constant) and isinstance(node.value, (float, complex)):
            yield node.lineno, "L7 a float"
        elif isinstance(node, ast.Constant) and isinstance(node.value, str) and re.search("[^\n\t -~]|%", node.value):
            yield node.lineno, "L27 a character that may not stand in a string"
        elif isinstance(node, ast.FunctionDef):
            if node.end_lineno - node.lineno >= 40:
                yield node.lineno, "L10 a function of more than 40 lines"
            for mark in node.decorator_list:
                setter = isinstance(mark, ast.Attribute) and mark.attr == "setter"
                if not setter and getattr(mark, "id", None) not in DECORATORS:
                    yield node.lineno, "L4 a decorator"
        elif isinstance(node, ast.Compare):
            for sign, side in zip(node.ops, node.comparators):
                if isinstance(sign, (ast.Is, ast.IsNot)) and not isinstance(side, (ast.Constant, ast.Name)):
                    yield node.lineno, "L20 is"
        elif isinstance(node, ast.Call):
            name = getattr(node.func, "id", getattr(node.func, "attr", ""))
            if name == "sort":
                yield node.lineno, "L25 .sort() in a package with __eq__"
            if name in LISTS_ONLY and any(isinstance(part, ast.GeneratorExp) for part in node.args):
                yield node.lineno, f"L7 {name} of a generator in a package with __eq__"


def check_loops(tree):
    """Faults of loops: L23, what a loop iterates over is changed in it, by another name too."""
    for function in ast.walk(tree):
        if isinstance(function, ast.FunctionDef):
            kept = same_values(function)
            for loop in ast.walk(function):
                if isinstance(loop, LOOPS):
                    walked = {other for place in walked_places(loop) for other in kept.get(place, {place})}
                    for number, place in changed_places(loop):
                        if place in walked:
                            yield number, f"L23 {place} is changed in a loop that iterates over it"


def same_values(function):
    """For each place of the function that is assigned another one: all places that may be the same value."""
    found = {}
    for node in ast.walk(function):
        if isinstance(node, (ast.Assign, ast.NamedExpr)):
            targets = node.targets if isinstance(node, ast.Assign) else [node.target]
            sides = [pair for target in targets for pair in zip(*paired(target, node.value))]
            # Several targets of one statement get one value: `low = high = []`.
            sides += list(zip(targets, targets[1:]))
            for first, second in sides:
                group = set().union(*[found.get(place, {place}) for place in places(first) + places(second)])
                found.update({place: group for place in group})
    return found


def paired(target, value):
    """The targets and the values of an assignment, side by side where it has several."""
    if isinstance(target, (ast.Tuple, ast.List)) and isinstance(value, (ast.Tuple, ast.List)):
        if len(target.elts) == len(value.elts):
            return target.elts, value.elts
    return [target], [value]


def places(node):
    """The names, attributes and items whose value an expression may be."""
    if isinstance(node, ast.Name):
        return [node.id]
    if isinstance(node, ast.Attribute):
        return [f".{node.attr}"]
    if isinstance(node, ast.Subscript) and not isinstance(node.slice, ast.Slice):
        return [ast.unparse(node)]
    if isinstance(node, ast.IfExp):
        return places(node.body) + places(node.orelse)
    if isinstance(node, ast.BoolOp):
        return [place for part in node.values for place in places(part)]
    return []


def walked_places(loop):
    """What a loop or a comprehension iterates over, through enumerate, zip, items and the like too."""
    sources = [loop.iter] if isinstance(loop, ast.For) else [part.iter for part in loop.generators]
    found = []
    while sources:
        source = sources.pop()
        if isinstance(source, ast.Call) and isinstance(source.func, ast.Name):
            if source.func.id in ("enumerate", "zip", "reversed", "iter", "map"):
                sources += source.args
        elif isinstance(source, ast.Call) and isinstance(source.func, ast.Attribute):
            if source.func.attr in ("items", "keys", "values"):
                sources.append(source.func.value)
        else:
            found += places(source)
    return found


def changed_places(loop):
    """What is changed inside a loop or a comprehension, each with its line."""
    parts = loop.body if isinstance(loop, ast.For) else [loop]
    for node in [inner for part in parts for inner in ast.walk(part)]:
        changed = []
        if isinstance(node, ast.Call) and isinstance(node.func, ast.Attribute) and node.func.attr in CHANGES:
            changed = places(node.func.value)
        elif isinstance(node, ast.Call) and isinstance(node.func, ast.Name) and node.func.id in CHANGES:
            changed = places(node.args[0]) if node.args else []
        elif isinstance(node, ast.Subscript) and not isinstance(node.ctx, ast.Load):
            changed = places(node.value)
        elif isinstance(node, ast.AugAssign):
            changed = places(node.target)
        for place in changed:
            yield node.lineno, place


def main():
    """Print each breach, and end with 1 if there is one."""
    found = []
    for path in sorted(PACKAGE.iterdir()):
        if path.name == "__pycache__":
            continue
        if not re.fullmatch("[a-z0-9_]+[.]py", path.name):
            found.append((path.name, 0, "L1 a file with another ending or name"))
            continue
        text = path.read_bytes().decode("ascii")
        tree = ast.parse(text)
        found += [(path.name, line, fault) for line, fault in check_text(text)]
        for check in (check_imports, check_names, check_nodes, check_loops):
            found += [(path.name, line, fault) for line, fault in check(tree)]
    for name, line, fault in found:
        print(f"nestweigh/{name}:{line}: {fault}")
    sys.exit(1 if found else 0)


if __name__ == "__main__":
    main()
