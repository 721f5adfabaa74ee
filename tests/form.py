"""Finds in the files of the package what ../shared/LANGUAGE.md forbids, as far as a look at a file tells."""

import ast
import builtins
import re

BUILTINS = set("""len range enumerate zip min max sum abs sorted reversed int str bool list tuple dict set
isinstance ord repr any all divmod ValueError TypeError KeyError IndexError Exception NotImplemented""".split())
METHODS = set("""append clear copy count endswith extend find get index insert isalnum isalpha isdigit islower
isspace isupper items join keys ljust lower lstrip partition pop remove replace reverse rfind rjust rpartition
rsplit rstrip setdefault split splitlines startswith strip update upper values zfill bit_length""".split())
DUNDERS = set("__init__ __eq__ __len__ __contains__ __repr__ __str__ __enter__ __exit__".split())
WORDS = """type typing typing_extensions enum Enum IntEnum StrEnum Flag IntFlag Generic Protocol ABC ABCMeta
namedtuple NamedTuple TypedDict TYPE_CHECKING abstractmethod""".split()
NAMES = set("""register mro elements open input law version_info with_traceback add_note attrgetter breakpoint builtins
compile copyright credits delattr dir eval exec exit gc globals help id importlib license locals methodcaller os quit
super type vars sys""".split())
TOP = (ast.ImportFrom, ast.FunctionDef, ast.ClassDef, ast.Assign)
BANNED = (ast.AsyncFunctionDef, ast.Await, ast.AsyncFor, ast.AsyncWith, ast.Global, ast.Nonlocal, ast.Div, ast.Pow,
          ast.GeneratorExp, ast.AnnAssign, ast.Import, ast.Yield, ast.YieldFrom, ast.JoinedStr, ast.Mod, ast.MatMult,
          ast.Match, ast.Delete)
ITERATED = {"zip", "enumerate", "reversed", "items", "keys", "values"}


def parents_of(tree):
    return {child: node for node in ast.walk(tree) for child in ast.iter_child_nodes(node)}


def imports_of(tree):
    return {name.name: node.module for node in tree.body if isinstance(node, ast.ImportFrom) for name in node.names}


def defined_in(tree):
    """The names that stand at module level, imports aside."""
    names = []
    for node in tree.body:
        if isinstance(node, (ast.FunctionDef, ast.ClassDef)):
            names.append(node.name)
        elif isinstance(node, ast.Assign):
            names += [target.id for target in node.targets]
    return names


def locals_of(function):
    """Parameters and all names that a function assigns."""
    spec = function.args
    names = [one.arg for one in spec.posonlyargs + spec.args + spec.kwonlyargs]
    return names + [node.id for node in ast.walk(function)
                    if isinstance(node, ast.Name) and isinstance(node.ctx, ast.Store)]


def lines_wrong(text):
    """L10, L14, L17, L27: what lines and signs tell."""
    if any(sign != "\n" and not " " <= sign <= "~" for sign in text):
        yield "L14: a sign"
    lines = text.split("\n")
    if len(lines) > 400:
        yield "L10: a long file"
    for at, line in enumerate(lines, 1):
        if len(line) > 120:
            yield f"L10: line {at} is long"
        if "_wall" in line or "_WallAttr" in line:
            yield f"L12: line {at}"


def nodes_wrong(tree, own):
    """What single nodes tell; own: the names of methods of the package."""
    parents = parents_of(tree)
    docs = {id(node.body[0].value) for node in ast.walk(tree)
            if isinstance(node, (ast.Module, ast.ClassDef, ast.FunctionDef)) and ast.get_docstring(node)}
    for node in ast.walk(tree):
        at = getattr(node, "lineno", 0)
        parent = parents.get(node)
        if isinstance(node, BANNED):
            yield f"{type(node).__name__} in line {at}"
        elif isinstance(node, ast.Constant):
            if isinstance(node.value, (float, complex, bytes)):
                yield f"L7: line {at}"
            if isinstance(node.value, str) and id(node) not in docs:
                if "%" in node.value or any(re.search(rf"\b{word}\b", node.value) for word in WORDS):
                    yield f"L17, L27: a string in line {at}"
        elif isinstance(node, ast.Name):
            if isinstance(node.ctx, ast.Load) and hasattr(builtins, node.id) and node.id not in BUILTINS:
                yield f"L8: {node.id} in line {at}"
            if node.id in NAMES or node.id in WORDS or node.id.startswith("__"):
                yield f"L17: {node.id} in line {at}"
            if node.id == "_" and isinstance(node.ctx, ast.Load):
                yield f"L12: _ in line {at}"
        elif isinstance(node, ast.Compare):
            for operator, right in zip(node.ops, node.comparators):
                if isinstance(operator, (ast.Is, ast.IsNot)) and not isinstance(right, ast.Constant):
                    yield f"L20: line {at}"
        elif isinstance(node, ast.Call):
            yield from call_wrong(node, parent, own, at)
        elif isinstance(node, (ast.Set, ast.SetComp)) and not beside_set(parent):
            yield f"L24: line {at}"
        elif isinstance(node, ast.ExceptHandler):
            names = [] if node.type is None else [node.type.id]
            if not names or names[0] in ("Exception", "ValueError", "IndexError", "LookupError", "TypeError"):
                yield f"L19: line {at}"
        elif isinstance(node, ast.Raise):
            if node.exc is not None and not (isinstance(node.exc, ast.Call) and isinstance(node.exc.func, ast.Name)):
                yield f"L19: line {at}"
        elif isinstance(node, ast.Attribute) and node.attr.startswith("__"):
            yield f"L8: {node.attr} in line {at}"


def beside_set(parent):
    """Whether a set may be written in such a place."""
    if isinstance(parent, ast.Call):
        return isinstance(parent.func, ast.Name) and parent.func.id in ("sorted", "len") and not parent.keywords
    return isinstance(parent, ast.Compare)


def call_wrong(node, parent, own, at):
    if isinstance(node.func, ast.Attribute):
        name = node.func.attr
        if name not in METHODS and name not in own:
            yield f"L25: {name} in line {at}"
        if name in METHODS and node.keywords:
            yield f"L25: keywords in line {at}"
    elif isinstance(node.func, ast.Name):
        name = node.func.id
        if name == "set" and not beside_set(parent):
            yield f"L24: line {at}"
    else:
        yield f"L7: a call in line {at}"
        return
    if name in ITERATED and not isinstance(parent, (ast.For, ast.comprehension)) and not (
            isinstance(parent, ast.Call) and isinstance(parent.func, ast.Name)):
        yield f"L23: {name} in line {at}"


def functions_wrong(tree):
    """L4, L5, L10, L12, L15: what functions and classes tell."""
    taken = set(imports_of(tree)) | {node.name for node in tree.body if isinstance(node, ast.ClassDef)}
    for node in ast.walk(tree):
        if isinstance(node, (ast.FunctionDef, ast.ClassDef)):
            if node.decorator_list:
                yield f"L4: {node.name}"
            if hasattr(builtins, node.name) and not isinstance(parents_of(tree)[node], ast.ClassDef):
                yield f"L15: {node.name}"
        if isinstance(node, ast.FunctionDef):
            if node.end_lineno - node.lineno + 1 > 40:
                yield f"L10: {node.name} is long"
            if node.name.startswith("__") and node.name not in DUNDERS:
                yield f"L5: {node.name}"
            if ast.get_docstring(node) is None and not node.name.startswith("__"):
                yield f"no docstring: {node.name}"
            for name in locals_of(node):
                if name in taken or name != "_" and hasattr(builtins, name):
                    yield f"L15: {name} in {node.name}"


def top_wrong(tree, trees):
    """L2, L3, L16: imports and module level."""
    begun = False
    for at, node in enumerate(tree.body):
        if at == 0 and isinstance(node, ast.Expr):
            continue
        if not isinstance(node, TOP):
            yield f"L3: line {node.lineno}"
        if isinstance(node, ast.ImportFrom):
            home = trees.get(node.module)
            if begun or node.level or home is None:
                yield f"L2: line {node.lineno}"
            elif any(name.asname or name.name not in defined_in(home) for name in node.names):
                yield f"L16: line {node.lineno}"
        else:
            begun = True
    names = defined_in(tree) + list(imports_of(tree))
    if len(names) != len(set(names)):
        yield "L15: a name is bound twice"


def unused(tree):
    """Imports that nothing uses."""
    used = {node.id for node in ast.walk(tree) if isinstance(node, ast.Name)}
    return [f"{name} is imported and not used" for name in imports_of(tree) if name not in used]


def is_simple(node):
    """Whether this is a name, an attribute, a literal without a sign, or a tuple of such."""
    if isinstance(node, ast.Tuple):
        return all(is_simple(one) for one in node.elts)
    return isinstance(node, (ast.Name, ast.Attribute, ast.Constant))


def stars_wrong(tree):
    """L7: what stands behind a star in a call."""
    for node in ast.walk(tree):
        if isinstance(node, ast.Call):
            for one in node.args:
                if isinstance(one, ast.Starred) and not is_simple(one.value):
                    yield f"L7: a star in line {node.lineno}"
            if any(word.arg is None for word in node.keywords):
                yield f"L7: two stars in line {node.lineno}"


def exits_wrong(tree):
    """L6 With: the rows of __exit__; only assignments of what is simple, under tests of None."""
    def rows_wrong(rows):
        for row in rows:
            if isinstance(row, ast.If):
                tests = row.test.values if isinstance(row.test, ast.BoolOp) else [row.test]
                if not all(isinstance(test, ast.Compare) and isinstance(test.ops[0], (ast.Is, ast.IsNot)) for test in tests):
                    yield f"L6 With: line {row.lineno}"
                yield from rows_wrong(row.body + row.orelse)
            elif not (isinstance(row, ast.Assign) and len(row.targets) == 1 and is_simple(row.value)):
                yield f"L6 With: line {row.lineno}"

    for node in ast.walk(tree):
        if isinstance(node, ast.FunctionDef) and node.name == "__exit__":
            yield from rows_wrong(node.body)
            read = {one.id for one in ast.walk(node) if isinstance(one, ast.Name)}
            if read & {one.arg for one in node.args.args[2:]}:
                yield f"L6 With: {node.lineno}"


def circles(trees):
    """L16: modules that import from one another."""
    known = {name: set(imports_of(tree).values()) for name, tree in trees.items()}
    for _ in known:
        known = {name: found.union(*[known.get(one, set()) for one in found]) for name, found in known.items()}
    return [f"L16: {name}" for name, found in known.items() if name in found]


def wrong(texts):
    """All that is wrong in these files, told by {module: text}."""
    trees = {name: ast.parse(text) for name, text in texts.items()}
    own = {node.name for tree in trees.values() for kind in tree.body if isinstance(kind, ast.ClassDef)
           for node in kind.body if isinstance(node, ast.FunctionDef)}
    found = circles(trees)
    for name, tree in trees.items():
        told = [*lines_wrong(texts[name]), *nodes_wrong(tree, own), *functions_wrong(tree),
                *top_wrong(tree, trees), *unused(tree), *stars_wrong(tree), *exits_wrong(tree)]
        found += [f"{name}: {one}" for one in told]
    return found
