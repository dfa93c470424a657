"""Checks the files of the package for what ../shared/LANGUAGE.md rules out, as far as it can be seen at once."""

import ast
import builtins
import pathlib
import re
import sys

PACKAGE = "lastasked"
LIBRARY = {"heapq": {"heappush", "heappop", "heapify", "heapreplace", "heappushpop"},
           "math": {"gcd", "lcm", "isqrt", "comb", "perm", "factorial"},
           "itertools": {"product", "combinations", "permutations"}}
BUILTINS = set("""len range enumerate zip min max sum abs sorted reversed int str bool list tuple dict set isinstance ord
    repr any all divmod map iter next Exception ValueError TypeError KeyError IndexError LookupError ZeroDivisionError
    ArithmeticError OverflowError RuntimeError NotImplementedError AttributeError StopIteration NotImplemented
    property staticmethod classmethod super object float bytes""".split())
NOWHERE = set("""register mro elements open input law version_info with_traceback add_note""".split())
NO_NAMES = set("""attrgetter breakpoint builtins compile copyright credits delattr dir eval exec exit gc getattr globals
    hasattr help id importlib license locals methodcaller os quit setattr type vars sys""".split())
NO_WORDS = re.compile(r"\b(typing|typing_extensions|enum|Enum|IntEnum|StrEnum|Flag|IntFlag|Generic|Protocol|ABC|ABCMeta|"
                      r"namedtuple|NamedTuple|TypedDict|TYPE_CHECKING|abstractmethod)\b|dataclass|overload|contextmanager")
METHODS = set("""append clear copy count endswith extend find get index insert isalnum isalpha isdigit islower isspace
    isupper items join keys ljust lower lstrip partition pop remove replace reverse rfind rjust rpartition rsplit rstrip
    setdefault split splitlines startswith strip update upper values zfill bit_length title capitalize swapcase casefold
    center expandtabs removeprefix removesuffix rindex isascii isdecimal isnumeric istitle isidentifier isprintable
    translate add discard""".split())
NO_ATTRIBUTES = set("""items keys values pop update append clear extend insert remove reverse setdefault sort args encode
    decode hex fromhex format""".split())
CHANGES = set("append clear extend insert pop remove reverse setdefault sort update add discard".split())
VIEWS = ("items", "keys", "values")
STATEMENTS = (ast.Global, ast.AsyncFunctionDef, ast.AsyncFor, ast.AsyncWith, ast.Await, ast.GeneratorExp)


def faults_of_lines(rows):
    """Size and characters."""
    if len(rows) > 399:
        yield 1, "L10 more than 399 lines"
    for number, row in enumerate(rows, 1):
        if len(row) > 120:
            yield number, "L10 more than 120 characters"
        if not all(" " <= letter <= "~" for letter in row):
            yield number, "L14 a character that is not let"
        if NO_WORDS.search(row):
            yield number, "L17 a word that is not let"


def names_bound(tree):
    """(line, name) of all that a file binds but attributes, methods and imports."""
    for node in ast.walk(tree):
        if isinstance(node, ast.Name) and isinstance(node.ctx, ast.Store):
            yield node.lineno, node.id
        elif isinstance(node, ast.arg):
            yield node.lineno, node.arg
        elif isinstance(node, ast.ExceptHandler) and node.name:
            yield node.lineno, node.name
    methods = [row for node in ast.walk(tree) if isinstance(node, ast.ClassDef) for row in node.body]
    for node in ast.walk(tree):
        if isinstance(node, (ast.FunctionDef, ast.ClassDef)) and node not in methods:
            yield node.lineno, node.name


def faults_of_names(tree):
    """Names that are taken otherwise."""
    imported = [alias.name for node in tree.body if isinstance(node, ast.ImportFrom) for alias in node.names]
    classes = [node.name for node in tree.body if isinstance(node, ast.ClassDef)]
    tops = [node.name for node in tree.body if isinstance(node, (ast.FunctionDef, ast.ClassDef))] + imported
    tops += [target.id for node in tree.body if isinstance(node, ast.Assign) for target in node.targets]
    for name in sorted(set(tops)):
        if tops.count(name) > 1:
            yield 1, f"L15 {name} is bound twice"
    for line, name in names_bound(tree):
        if hasattr(builtins, name) or name in NO_NAMES:
            yield line, f"L15 {name} is the name of a builtin"
        if name in imported or name in classes and name not in tops:
            yield line, f"L15 {name} is the name of an import"
        if name in NOWHERE or not re.fullmatch(r"_|_?[A-Za-z][A-Za-z0-9_]*", name):
            yield line, f"L17 {name} is not used"
    bound = set(tops) | {name for _, name in names_bound(tree)}
    for node in ast.walk(tree):
        if isinstance(node, ast.Name) and isinstance(node.ctx, ast.Load):
            if node.id == "_":
                yield node.lineno, "L12 _ is read"
            if node.id not in bound and node.id not in BUILTINS:
                yield node.lineno, f"L8 {node.id} is not let"


def faults_of_imports(tree):
    """Where imports stand and what they name."""
    for node in ast.walk(tree):
        if isinstance(node, ast.Import):
            yield node.lineno, "L16 import without from"
        if isinstance(node, ast.ImportFrom):
            names = {alias.name for alias in node.names}
            if node not in tree.body or node.level or any(alias.asname for alias in node.names):
                yield node.lineno, "L2 an import that is not let"
            elif node.module.split(".")[0] != PACKAGE and not names <= LIBRARY.get(node.module, set()):
                yield node.lineno, "L2 an import from outside"


def is_own_handler(handler, own):
    """Whether it catches one error of the package, by name."""
    return isinstance(handler.type, ast.Name) and handler.type.id in own


def faults_of_nodes(tree, methods):
    """What stands in statements and values."""
    own = [alias.name for node in tree.body if isinstance(node, ast.ImportFrom) and node.module == f"{PACKAGE}.errors"
           for alias in node.names]
    for node in ast.walk(tree):
        if isinstance(node, STATEMENTS):
            yield node.lineno, f"{type(node).__name__} is not let here"
        if isinstance(node, ast.FunctionDef) and node.end_lineno - node.lineno >= 40:
            yield node.lineno, "L10 more than 40 lines"
        if isinstance(node, ast.Constant) and isinstance(node.value, str):
            if "%" in node.value:
                yield node.lineno, "L27 a percent sign in a string"
        if isinstance(node, ast.Constant) and isinstance(node.value, (float, complex)) or isinstance(node, ast.Div):
            yield getattr(node, "lineno", 1), "L7 a float"
        if isinstance(node, ast.Compare) and any(isinstance(op, (ast.Is, ast.IsNot)) for op in node.ops):
            if not all(isinstance(other, ast.Constant) for other in node.comparators):
                yield node.lineno, "L20 is beside something else than None, True, False"
        if isinstance(node, ast.Attribute) and isinstance(node.ctx, ast.Store) and node.attr in NO_ATTRIBUTES:
            yield node.lineno, f"L26 an attribute {node.attr}"
        if isinstance(node, ast.Call) and isinstance(node.func, ast.Attribute) and node.func.attr not in METHODS | methods:
            yield node.lineno, f"L25 a call of {node.func.attr}"
        if isinstance(node, ast.Try) and (node.finalbody or not all(is_own_handler(row, own) for row in node.handlers)):
            yield node.lineno, "L19 look at this try"
        if isinstance(node, (ast.For, ast.comprehension)) and isinstance(node.iter, (ast.Set, ast.SetComp)):
            yield 1, "L24 a set is iterated"


def is_let_in_exit(test):
    """Whether a test asks names and attributes by is None and is not None alone, as some class compares (L6 With)."""
    if isinstance(test, ast.BoolOp):
        return all(is_let_in_exit(part) for part in test.values)
    if isinstance(test, ast.UnaryOp) and isinstance(test.op, ast.Not):
        return is_let_in_exit(test.operand)
    return (isinstance(test, ast.Compare) and isinstance(test.left, (ast.Name, ast.Attribute))
            and [isinstance(op, (ast.Is, ast.IsNot)) for op in test.ops] == [True]
            and isinstance(test.comparators[0], ast.Constant) and test.comparators[0].value is None)


def faults_of_exits(tree):
    """What the tests in __exit__ ask."""
    for node in ast.walk(tree):
        if isinstance(node, ast.FunctionDef) and node.name == "__exit__":
            for row in ast.walk(node):
                if isinstance(row, ast.If) and not is_let_in_exit(row.test):
                    yield row.lineno, "L6 a test in __exit__ that is not by is None"


def lists_in(node):
    """The names, attributes and items that a value or the head of a loop may be, or goes over."""
    if isinstance(node, (ast.Name, ast.Attribute, ast.Subscript)):
        return {ast.unparse(node)}
    if isinstance(node, ast.NamedExpr):
        return lists_in(node.value)
    parts = []
    if isinstance(node, ast.IfExp):
        parts = [node.body, node.orelse]
    elif isinstance(node, ast.BoolOp):
        parts = node.values
    elif isinstance(node, ast.Call) and ast.unparse(node.func) in ("enumerate", "zip", "reversed"):
        parts = node.args
    elif isinstance(node, ast.Call) and isinstance(node.func, ast.Attribute) and node.func.attr in VIEWS:
        parts = [node.func.value]
    return {name for part in parts for name in lists_in(part)}


def names_alike(function):
    """A function from a name, attribute or item to all that may be one list with it, by the assignments there."""
    groups = [{name for part in [*node.targets, node.value] for name in lists_in(part)} for node in ast.walk(function)
              if isinstance(node, ast.Assign)]

    def alike(name):
        found, many = {name}, 0
        while many < len(found):
            many = len(found)
            found = found.union(*[group for group in groups if group & found])
        return found
    return alike


def lists_changed(rows):
    """(line, name, attribute or item) of all that is changed in these rows."""
    for node in [node for row in rows for node in ast.walk(row)]:
        if isinstance(node, ast.Call) and isinstance(node.func, ast.Attribute) and node.func.attr in CHANGES:
            yield node.lineno, ast.unparse(node.func.value)
        elif isinstance(node, ast.Subscript) and not isinstance(node.ctx, ast.Load):
            yield node.lineno, ast.unparse(node.value)
        elif isinstance(node, ast.AugAssign):
            yield node.lineno, ast.unparse(node.target)


def faults_of_loops(tree):
    """What a loop walks is not changed in it, by whatever name."""
    for function in ast.walk(tree):
        if isinstance(function, ast.FunctionDef):
            alike = names_alike(function)
            for loop in [node for node in ast.walk(function) if isinstance(node, ast.For)]:
                walked = {name for head in lists_in(loop.iter) for name in alike(head)}
                for line, name in lists_changed(loop.body):
                    if name in walked:
                        yield line, f"L23 {name} is changed where a loop walks it"


def faults_of_classes(trees):
    """No name is a method and an attribute, wherever they stand."""
    methods, attributes = set(), set()
    for tree in trees.values():
        for node in ast.walk(tree):
            if isinstance(node, ast.ClassDef):
                methods |= {row.name for row in node.body if isinstance(row, ast.FunctionDef)}
            if isinstance(node, ast.Attribute) and isinstance(node.ctx, ast.Store):
                attributes.add(node.attr)
    for name in sorted(methods & attributes):
        yield f"L18 {name} is a method and an attribute"


def faults_of_rings(trees):
    """No two files import from each other."""
    leads = {name: {node.module for node in tree.body if isinstance(node, ast.ImportFrom)} for name, tree in trees.items()}
    for name in leads:
        seen, left = set(), [name]
        while left:
            for other in leads.get(left.pop(), ()):
                if other == name:
                    yield f"L16 {name} imports itself"
                if other not in seen:
                    seen.add(other)
                    left.append(other)


def main():
    files = sorted(pathlib.Path(PACKAGE).rglob("*.py"))
    trees = {str(path)[:-3].replace("/", "."): ast.parse(path.read_text("utf-8")) for path in files}
    methods = {row.name for tree in trees.values() for node in ast.walk(tree) if isinstance(node, ast.ClassDef)
               for row in node.body if isinstance(row, ast.FunctionDef)}
    told = [f"{PACKAGE}: {fault}" for fault in [*faults_of_classes(trees), *faults_of_rings(trees)]]
    for path, tree in zip(files, trees.values()):
        found = list(faults_of_lines(path.read_text("utf-8").split("\n")))
        for more in (faults_of_names(tree), faults_of_imports(tree), faults_of_nodes(tree, methods),
                     faults_of_exits(tree), faults_of_loops(tree)):
            found.extend(more)
        told += [f"{path}:{line}: {fault}" for line, fault in sorted(found)]
    print("\n".join(told) or f"form: {len(files)} files are right")
    sys.exit(1 if told else 0)


if __name__ == "__main__":
    main()
