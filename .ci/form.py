"""Checks the files of the package for what ../shared/LANGUAGE.md rules out, as far as it can be seen at once."""

import ast
import builtins
import pathlib
import re
import sys

PACKAGE = "lastasked"
LIBRARY = {"heapq": {"heappush", "heappop", "heapify", "heapreplace", "heappushpop"},
           "math": {"gcd", "lcm", "isqrt", "comb", "perm", "factorial"},
           "itertools": {"product", "combinations", "permutations"}}
BUILTINS = set("""len range enumerate zip min max sum abs sorted reversed int str bool list tuple dict set isinstance ord
    repr any all divmod map iter next Exception ValueError TypeError KeyError IndexError LookupError ZeroDivisionError
    ArithmeticError OverflowError RuntimeError NotImplementedError AttributeError StopIteration NotImplemented
    property staticmethod classmethod super object float bytes""".split())
NOWHERE = set("""register mro elements open input law version_info with_traceback add_note""".split())
NO_NAMES = set("""attrgetter breakpoint builtins compile copyright credits delattr dir eval exec exit gc getattr globals
    hasattr help id importlib license locals methodcaller os quit setattr type vars sys""".split())
NO_WORDS = re.compile(r"\b(typing|typing_extensions|enum|Enum|IntEnum|StrEnum|Flag|IntFlag|Generic|Protocol|ABC|ABCMeta|"
                      r"namedtuple|NamedTuple|TypedDict|TYPE_CHECKING|abstractmethod)\b|dataclass|overload|contextmanager")
METHODS = set("""append clear copy count endswith extend find get index insert isalnum isalpha isdigit islower isspace
    isupper items join keys ljust lower lstrip partition pop remove replace reverse rfind rjust rpartition rsplit rstrip
    setdefault split splitlines startswith strip update upper values zfill bit_length title capitalize swapcase casefold
    center expandtabs removeprefix removesuffix rindex isascii isdecimal isnumeric istitle isidentifier isprintable
    translate add discard""".split())
NO_ATTRIBUTES = set("""items keys values pop update append clear extend insert remove reverse setdefault sort args encode
    decode hex fromhex format""".split())
STATEMENTS = (ast.Global, ast.AsyncFunctionDef, ast.AsyncFor, ast.AsyncWith, ast.Await, ast.GeneratorExp)


def faults_of_lines(rows):
    """Size and characters."""
    if len(rows) > 399:
        yield 1, "L10 more than 399 lines"
    for number, row in enumerate(rows, 1):
        if len(row) > 120:
            yield number, "L10 more than 120 characters"
        if not all(" " <= letter <= "~" for letter in row):
            yield number, "L14 a character that is not let"
        if NO_WORDS.search(row):
            yield number, "L17 a word that is not let"


def names_bound(tree):
    """(line, name) of all that a file binds but attributes, methods and imports."""
    for node in ast.walk(tree):
        if isinstance(node, ast.Name) and isinstance(node.ctx, ast.Store):
            yield node.lineno, node.id
        elif isinstance(node, ast.arg):
            yield node.lineno, node.arg
        elif isinstance(node, ast.ExceptHandler) and node.name:
            yield node.lineno, node.name
    methods = [row for node in ast.walk(tree) if isinstance(node, ast.ClassDef) for row in node.body]
    for node in ast.walk(tree):
        if isinstance(node, (ast.FunctionDef, ast.ClassDef)) and node not in methods:
            yield node.lineno, node.name


def faults_of_names(tree):
    """Names that are taken otherwise."""
    imported = [alias.name for node in tree.body if isinstance(node, ast.ImportFrom) for alias in node.names]
    classes = [node.name for node in tree.body if isinstance(node, ast.ClassDef)]
    tops = [node.name for node in tree.body if isinstance(node, (ast.FunctionDef, ast.ClassDef))] + imported
    tops += [target.id for node in tree.body if isinstance(node, ast.Assign) for target in node.targets]
    for name in sorted(set(tops)):
        if tops.count(name) > 1:
            yield 1, f"L15 {name} is bound twice"
    for line, name in names_bound(tree):
        if hasattr(builtins, name) or name in NO_NAMES:
            yield line, f"L15 {name} is the name of a builtin"
        if name in imported or name in classes and name not in tops:
            yield line, f"L15 {name} is the name of an import"
        if name in NOWHERE or not re.fullmatch(r"_|_?[A-Za-z][A-Za-z0-9_]*", name):
            yield line, f"L17 {name} is not used"
    bound = set(tops) | {name for _, name in names_bound(tree)}
    for node in ast.walk(tree):
        if isinstance(node, ast.Name) and isinstance(node.ctx, ast.Load):
            if node.id == "_":
                yield node.lineno, "L12 _ is read"
            if node.id not in bound and node.id not in BUILTINS:
                yield node.lineno, f"L8 {node.id} is not let"


def faults_of_imports(tree):
    """Where imports stand and what they name."""
    for node in ast.walk(tree):
        if isinstance(node, ast.Import):
            yield node.lineno, "L16 import without from"
        if isinstance(node, ast.ImportFrom):
            names = {alias.name for alias in node.names}
            if node not in tree.body or node.level or any(alias.asname for alias in node.names):
                yield node.lineno, "L2 an import that is not let"
            elif node.module.split(".")[0] != PACKAGE and not names <= LIBRARY.get(node.module, set()):
                yield node.lineno, "L2 an import from outside"


def is_own_handler(handler, own):
    """Whether it catches one error of the package, by name."""
    return isinstance(handler.type, ast.Name) and handler.type.id in own


def faults_of_nodes(tree, methods):
    """What stands in statements and values."""
    own = [alias.name for node in tree.body if isinstance(node, ast.ImportFrom) and node.module == f"{PACKAGE}.errors"
           for alias in node.names]
    for node in ast.walk(tree):
        if isinstance(node, STATEMENTS):
            yield node.lineno, f"{type(node).__name__} is not let here"
        if isinstance(node, ast.FunctionDef) and node.end_lineno - node.lineno >= 40:
            yield node.lineno, "L10 more than 40 lines"
        if isinstance(node, ast.Constant) and isinstance(node.value, str):
            if "%" in node.value:
                yield node.lineno, "L27 a percent sign in a string"
        if isinstance(node, ast.Constant) and isinstance(node.value, (float, complex)) or isinstance(node, ast.Div):
            yield getattr(node, "lineno", 1), "L7 a float"
        if isinstance(node, ast.Compare) and any(isinstance(op, (ast.Is, ast.IsNot)) for op in node.ops):
            if not all(isinstance(other, ast.Constant) for other in node.comparators):
                yield node.lineno, "L20 is beside something else than None, True, False"
        if isinstance(node, ast.Attribute) and isinstance(node.ctx, ast.Store) and node.attr in NO_ATTRIBUTES:
            yield node.lineno, f"L26 an attribute {node.attr}"
        if isinstance(node, ast.Call) and isinstance(node.func, ast.Attribute) and node.func.attr not in METHODS | methods:
            yield node.lineno, f"L25 a call of {node.func.attr}"
        if isinstance(node, ast.Try) and (node.finalbody or not all(is_own_handler(row, own) for row in node.handlers)):
            yield node.lineno, "L19 look at this try"
        if isinstance(node, (ast.For, ast.comprehension)) and isinstance(node.iter, (ast.Set, ast.SetComp)):
            yield 1, "L24 a set is iterated"


def faults_of_classes(trees):
    """No name is a method and an attribute, wherever they stand."""
    methods, attributes = set(), set()
    for tree in trees.values():
        for node in ast.walk(tree):
            if isinstance(node, ast.ClassDef):
                methods |= {row.name for row in node.body if isinstance(row, ast.FunctionDef)}
            if isinstance(node, ast.Attribute) and isinstance(node.ctx, ast.Store):
                attributes.add(node.attr)
    for name in sorted(methods & attributes):
        yield f"L18 {name} is a method and an attribute"


def faults_of_rings(trees):
    """No two files import from each other."""
    leads = {name: {node.module for node in tree.body if isinstance(node, ast.ImportFrom)} for name, tree in trees.items()}
    for name in leads:
        seen, left = set(), [name]
        while left:
            for other in leads.get(left.pop(), ()):
                if other == name:
                    yield f"L16 {name} imports itself"
                if other not in seen:
                    seen.add(other)
                    left.append(other)


def main():
    files = sorted(pathlib.Path(PACKAGE).rglob("*.py"))
    trees = {str(path)[:-3].replace("/", "."): ast.parse(path.read_text("utf-8")) for path in files}
    methods = {row.name for tree in trees.values() for node in ast.walk(tree) if isinstance(node, ast.ClassDef)
               for row in node.body if isinstance(row, ast.FunctionDef)}
    told = [f"{PACKAGE}: {fault}" for fault in [*faults_of_classes(trees), *faults_of_rings(trees)]]
    for path, tree in zip(files, trees.values()):
        found = list(faults_of_lines(path.read_text("utf-8").split("\n")))
        for more in (faults_of_names(tree), faults_of_imports(tree), faults_of_nodes(tree, methods)):
            found.extend(more)
        told += [f"{path}:{line}: {fault}" for line, fault in sorted(found)]
    print("\n".join(told) or f"form: {len(files)} files are right")
    sys.exit(1 if told else 0)


if __name__ == "__main__":
    main()
