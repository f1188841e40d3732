"""Checks the package against what can be seen mechanically of the rules L1 to L28 of LANGUAGE.md.

The checks are stricter than the rules in places: what the package has no need of is refused as a whole.
"""

import ast
import builtins
import io
import re
import tokenize

MODULES = [
    "errors", "plans", "stores", "asks", "settling", "flows", "prices", "leeway", "told", "sure", "consistent",
    "market", "webs", "joint", "judging", "texts", "desk", "samples",
]
LIBRARY = {
    "heapq": {"heappush", "heappop", "heapify", "heapreplace", "heappushpop"},
    "math": {"gcd", "lcm", "isqrt", "comb", "perm", "factorial"},
    "itertools": {"product", "combinations", "permutations"},
    "collections": {"deque", "defaultdict"},
}
ERRORS = {
    "Exception", "ValueError", "TypeError", "KeyError", "IndexError", "LookupError", "ZeroDivisionError",
    "ArithmeticError", "OverflowError", "RuntimeError", "NotImplementedError", "AttributeError", "StopIteration",
}
CALLED = {
    "len", "range", "enumerate", "zip", "min", "max", "sum", "abs", "sorted", "reversed", "int", "str", "bool", "list",
    "tuple", "dict", "set", "isinstance", "ord", "repr", "any", "all", "divmod", "pow", "map", "iter", "next", "super",
}
KINDS = {"int", "str", "bool", "bytes", "list", "tuple", "dict"}
KEYWORDS = {
    "sorted": {"key", "reverse"}, "min": {"key", "default"}, "max": {"key", "default"}, "sum": {"start"},
    "enumerate": {"start"}, "zip": {"strict"},
}
ITERATING = {"list", "tuple", "dict", "sorted", "sum", "any", "all", "enumerate", "zip", "min", "max"}
LISTED_FIRST = {"sorted", "sum", "any", "all", "min", "max"}
AT_ONCE = {"range", "zip", "enumerate", "reversed", "map"}
VIEWS = {"items", "keys", "values"}
METHODS = set(
    "append clear copy count endswith extend find get index insert isalnum isalpha isdigit islower isspace isupper items"
    " join keys ljust lower lstrip partition pop remove replace reverse rfind rjust rpartition rsplit rstrip setdefault"
    " split splitlines startswith strip update upper values zfill bit_length title capitalize swapcase casefold center"
    " expandtabs removeprefix removesuffix rindex isascii isdecimal isnumeric istitle isidentifier isprintable"
    " add discard popleft appendleft".split())
BUILTIN_ATTRIBUTES = {
    name for kind in (str, int, list, dict, set, bytes) for name in dir(kind) if not name.startswith("__")}
OWN_ATTRIBUTES = {
    "count", "index", "title", "find", "get", "join", "lower", "upper", "split", "strip", "copy", "add"}
DUNDERS = {"__init__", "__eq__", "__repr__", "__str__", "__len__"}
NOWHERE = {
    "register", "mro", "elements", "open", "input", "law", "version_info", "with_traceback", "add_note", "format",
    "format_map"}
NO_NAMES = {
    "attrgetter", "breakpoint", "builtins", "compile", "copyright", "credits", "delattr", "dir", "eval", "exec", "exit",
    "gc", "getattr", "globals", "hasattr", "help", "id", "importlib", "license", "locals", "methodcaller", "os", "quit",
    "setattr", "sys", "type", "vars"}
NO_WORDS = re.compile(
    r"\b(type|typing|typing_extensions|enum|Enum|IntEnum|StrEnum|Flag|IntFlag|Generic|Protocol|ABC|ABCMeta|namedtuple"
    r"|NamedTuple|TypedDict|TYPE_CHECKING|abstractmethod)\b|dataclass|overload|contextmanager")
FRAMES = re.compile(r"^(f|tb|co|gi|cr|ag)_[a-z]+$")
PLAIN_NAME = re.compile(r"^(_|_?[A-Za-z][A-Za-z0-9_]*)$")
BARRED_STARTS = ("_wall", "_pe_", "_dcw_", "_enum_", "_cm_", "_twin_re_", "_lay_", "_law_", "_stub_", "_sre", "_WallAttr")
BARRED_NAMES = re.compile(r"^(_cold|_tuplegetter|_outside|_record|_written_out|_member_names)[0-9_]*$")
STATEMENTS = (
    ast.Assign, ast.AugAssign, ast.If, ast.While, ast.For, ast.Return, ast.Break, ast.Continue, ast.Pass, ast.Raise,
    ast.Assert, ast.Delete, ast.Nonlocal, ast.Try, ast.Expr, ast.FunctionDef, ast.ClassDef, ast.ImportFrom)
COMPREHENSIONS = (ast.ListComp, ast.SetComp, ast.DictComp, ast.GeneratorExp)


class Fault:
    """A rule that is broken at a line of a file."""

    def __init__(self, rule, line, why):
        self.rule = rule
        self.line = line
        self.why = why


class Package:
    """The files of a package by their names without the ending, and what they define."""

    def __init__(self, sources):
        self.sources = sources
        self.trees = {name: ast.parse(source) for name, source in sources.items()}
        self.defined = {name: defined_names(tree) for name, tree in self.trees.items()}
        self.nodes = [node for tree in self.trees.values() for node in ast.walk(tree)]
        self.classes = {node.name for node in self.nodes if isinstance(node, ast.ClassDef)}
        self.functions = [node for node in self.nodes if isinstance(node, ast.FunctionDef)]
        self.generators = {node.name for node in self.functions if is_generator(node)}
        self.bodies = [node for cls in self.nodes if isinstance(cls, ast.ClassDef) for node in cls.body]
        self.methods = {node.name for node in self.bodies if isinstance(node, ast.FunctionDef)}
        self.class_values = {node.targets[0].id for node in self.bodies if isinstance(node, ast.Assign)}
        self.attributes = {
            node.attr for node in self.nodes if isinstance(node, ast.Attribute) and isinstance(node.ctx, ast.Store)}


def defined_names(tree):
    found = []
    for node in tree.body:
        if isinstance(node, (ast.FunctionDef, ast.ClassDef)):
            found.append(node.name)
        elif isinstance(node, ast.Assign):
            found.extend(target.id for target in node.targets if isinstance(target, ast.Name))
    return found


def imported_names(tree):
    return [alias.asname or alias.name for node in ast.walk(tree) if isinstance(node, ast.ImportFrom)
            for alias in node.names]


def is_generator(function):
    return any(isinstance(node, (ast.Yield, ast.YieldFrom)) for node in ast.walk(function))


def is_property(function):
    return any(isinstance(node, ast.Name) and node.id == "property" for node in function.decorator_list)


def parents_of(tree):
    return {child: node for node in ast.walk(tree) for child in ast.iter_child_nodes(node)}


def docstrings_of(tree):
    found = set()
    for node in ast.walk(tree):
        if isinstance(node, (ast.Module, ast.ClassDef, ast.FunctionDef)) and ast.get_docstring(node, False) is not None:
            found.add(node.body[0].value)
    return found


def called_name(node):
    """The bare name that a call calls, else None."""
    if isinstance(node, ast.Call) and isinstance(node.func, ast.Name):
        return node.func.id
    return None


def is_plain(node):
    """Whether an expression is a plain value (L3): literals, and lists, tuples and dicts of them."""
    if isinstance(node, ast.Constant):
        return isinstance(node.value, (int, str, bytes)) or node.value is None
    if isinstance(node, ast.UnaryOp):
        return isinstance(node.op, ast.USub) and isinstance(node.operand, ast.Constant)
    if isinstance(node, (ast.List, ast.Tuple)):
        return all(is_plain(item) for item in node.elts)
    if isinstance(node, ast.Dict):
        return all(key is not None and is_plain(key) for key in node.keys) and all(map(is_plain, node.values))
    return isinstance(node, ast.Name)


def bound_names(tree):
    """All (name, node) that a file binds anywhere: variables, parameters, functions, classes, imports, errors."""
    for node in ast.walk(tree):
        if isinstance(node, ast.Name) and not isinstance(node.ctx, ast.Load):
            yield node.id, node
        elif isinstance(node, ast.arg):
            yield node.arg, node
        elif isinstance(node, (ast.FunctionDef, ast.ClassDef)):
            yield node.name, node
        elif isinstance(node, ast.ExceptHandler) and node.name:
            yield node.name, node


def check_text(package, name):
    source = package.sources[name]
    lines = source.split("\n")
    if len(lines) > 400:
        yield Fault("L10", 400, "a file has at most 399 lines")
    if source and not source.endswith("\n"):
        yield Fault("L1", len(lines), "no newline at the end")
    for at, line in enumerate(lines, 1):
        if len(line) > 120:
            yield Fault("L10", at, "a line has at most 120 characters")
        if not all(" " <= sign <= "~" for sign in line):
            yield Fault("L14", at, "a character that is not from the space to the tilde")
        if "_wall" in line or "_WallAttr" in line:
            yield Fault("L12", at, "a barred word")


def check_words(package, name):
    """L17 and L27: words and signs in code and strings, but not in comments and docstrings."""
    doc_lines = {(node.lineno, node.col_offset) for node in docstrings_of(package.trees[name])}
    for token in tokenize.generate_tokens(io.StringIO(package.sources[name]).readline):
        if token.type == tokenize.COMMENT or token.start in doc_lines:
            continue
        if NO_WORDS.search(token.string):
            yield Fault("L17", token.start[0], "a barred word")
        if token.type not in (tokenize.NAME, tokenize.OP) and "%" in token.string:
            yield Fault("L27", token.start[0], "a percent sign in a string")
        if re.search(r"\\[^nt\\'\"]", token.string):
            yield Fault("L27", token.start[0], "a barred escape")


def check_imports(package, name):
    tree = package.trees[name]
    earlier = MODULES[:MODULES.index(name)] if name in MODULES else MODULES
    body = [node for node in tree.body if node not in docstring_statements(tree)]
    for at, node in enumerate(body):
        if isinstance(node, ast.ImportFrom) and not all(isinstance(other, ast.ImportFrom) for other in body[:at]):
            yield Fault("L2", node.lineno, "imports stand at the top")
    for node in ast.walk(tree):
        if isinstance(node, ast.Import):
            yield Fault("L16", node.lineno, "a module is not imported as a name")
        if isinstance(node, ast.ImportFrom):
            yield from check_import(package, node, earlier)
    used = {node.id for node in ast.walk(tree) if isinstance(node, ast.Name)}
    for imported in imported_names(tree):
        if imported not in used:
            yield Fault("L2", 1, f"{imported} is imported and not used")


def check_import(package, node, earlier):
    names = [alias.name for alias in node.names]
    if node.level or node not in package.nodes or node.col_offset:
        yield Fault("L2", node.lineno, "imports have full names and stand at the top")
    elif node.module in LIBRARY:
        if not set(names) <= LIBRARY[node.module] or any(alias.asname for alias in node.names):
            yield Fault("L2", node.lineno, "not of the library")
    elif not node.module.startswith("asksold.") or node.module[8:] not in earlier:
        yield Fault("L2", node.lineno, "not a module that is listed before this one")
    elif not set(names) <= set(package.defined.get(node.module[8:], [])):
        yield Fault("L16", node.lineno, "the file does not define this name")


def docstring_statements(tree):
    return [node for node in tree.body if isinstance(node, ast.Expr) and node.value in docstrings_of(tree)]


def check_module_level(package, name):
    tree = package.trees[name]
    docs = docstring_statements(tree)
    for node in tree.body:
        if isinstance(node, ast.Assign):
            if len(node.targets) > 1 or not isinstance(node.targets[0], ast.Name) or not is_plain(node.value):
                yield Fault("L3", node.lineno, "one name is assigned a plain value")
        elif not isinstance(node, (ast.ImportFrom, ast.FunctionDef, ast.ClassDef)) and node not in docs:
            yield Fault("L3", node.lineno, "not allowed at module level")
    names = package.defined[name] + imported_names(tree)
    for bound in sorted(set(names)):
        if names.count(bound) > 1:
            yield Fault("L15", 1, f"{bound} is bound twice")
    outer = set(imported_names(tree)) | (package.classes & set(package.defined[name]))
    top = {id(node) for node in tree.body} | {id(target) for node in tree.body for target in ast.iter_child_nodes(node)
                                             if isinstance(node, ast.Assign)}
    methods = {id(node) for cls in ast.walk(tree) if isinstance(cls, ast.ClassDef) for node in cls.body}
    for bound, node in bound_names(tree):
        if bound in outer and id(node) not in top and id(node) not in methods:
            yield Fault("L15", node.lineno, f"{bound} is a class or an import of the file")
        if hasattr(builtins, bound) and id(node) not in methods:
            yield Fault("L15", node.lineno, f"{bound} is a builtin")


def check_names(package, name):
    tree = package.trees[name]
    names = list(bound_names(tree))
    names.extend((node.attr, node) for node in ast.walk(tree) if isinstance(node, ast.Attribute))
    names.extend((node.arg, node.value) for node in ast.walk(tree) if isinstance(node, ast.keyword) and node.arg)
    for word, node in names:
        if word in DUNDERS:
            continue
        if not PLAIN_NAME.match(word) or word.startswith(BARRED_STARTS) or BARRED_NAMES.match(word):
            yield Fault("L12", node.lineno, f"{word} is not a plain name")
        if word in NOWHERE or FRAMES.match(word):
            yield Fault("L17", node.lineno, f"{word} is barred everywhere")
    for word, node in bound_names(tree):
        if word in NO_NAMES:
            yield Fault("L17", node.lineno, f"{word} is barred as a name")
    for node in ast.walk(tree):
        if isinstance(node, ast.Name) and node.id == "_" and isinstance(node.ctx, ast.Load):
            yield Fault("L12", node.lineno, "_ is never read")


def check_functions(package, name):
    tree = package.trees[name]
    in_class = {node for cls in ast.walk(tree) if isinstance(cls, ast.ClassDef) for node in cls.body}
    for node in ast.walk(tree):
        if isinstance(node, ast.FunctionDef):
            first = min([node.lineno, *[part.lineno for part in node.decorator_list]])
            if node.end_lineno - first + 1 > 40:
                yield Fault("L10", node.lineno, "a function has at most 40 lines")
            if node.decorator_list and node not in in_class:
                yield Fault("L4", node.lineno, "a decorator over a function")
            for part in node.decorator_list:
                if not isinstance(part, ast.Name) or part.id not in ("property", "staticmethod", "classmethod"):
                    yield Fault("L5", node.lineno, "a decorator")
            if len(node.decorator_list) > 1:
                yield Fault("L5", node.lineno, "several decorators")
            yield from check_generator(package, node, node in in_class)
        if isinstance(node, (ast.FunctionDef, ast.Lambda)):
            defaults = [part for part in [*node.args.defaults, *node.args.kw_defaults] if part is not None]
            if not all(is_plain(part) and not isinstance(part, (ast.List, ast.Dict)) for part in defaults):
                yield Fault("L4", node.lineno, "a default value is plain")


def check_generator(package, node, is_method):
    if not is_generator(node):
        return
    if is_property(node) or node.name in DUNDERS or node.decorator_list:
        yield Fault("L23", node.lineno, "no generator")
    if node.name in METHODS:
        yield Fault("L23", node.lineno, "a generator has the name of a method of a builtin value")
    same = [other for other in package.functions if other.name == node.name and not is_property(other)]
    if len(same) > 1:
        yield Fault("L23", node.lineno, "another function has the generator's name")
    parents = parents_of(node)
    for part in ast.walk(node):
        if isinstance(part, (ast.Yield, ast.YieldFrom)) and not isinstance(parents[part], ast.Expr):
            yield Fault("L23", part.lineno, "a yield is a statement of its own")
        if isinstance(part, ast.Return) and part.value is not None:
            yield Fault("L23", part.lineno, "a generator returns no value")
        if isinstance(part, (ast.Try, ast.With)):
            yield Fault("L23", part.lineno, "a yield under a try or with")


def check_classes(package, name):
    tree = package.trees[name]
    top = tree.body
    for node in ast.walk(tree):
        if not isinstance(node, ast.ClassDef):
            continue
        if node not in top or node.decorator_list or node.keywords:
            yield Fault("L15", node.lineno, "a plain class at module level")
        if not all(isinstance(base, ast.Name) and base.id in package.classes | ERRORS for base in node.bases):
            yield Fault("L5", node.lineno, "a base class")
        docs = docstring_statements(node)
        for part in node.body:
            if isinstance(part, ast.Assign):
                if not is_plain(part.value) or isinstance(part.value, ast.Name):
                    yield Fault("L5", part.lineno, "a class value is plain")
            elif not isinstance(part, ast.FunctionDef) and part not in docs:
                yield Fault("L5", part.lineno, "not allowed in a class")
        methods = [part.name for part in node.body if isinstance(part, ast.FunctionDef)]
        if len(set(methods)) < len(methods):
            yield Fault("L18", node.lineno, "a method is defined twice")
        stored = {part.attr for part in ast.walk(node)
                  if isinstance(part, ast.Attribute) and isinstance(part.ctx, ast.Store)}
        if stored & (set(methods) | package.class_values):
            yield Fault("L18", node.lineno, "a name is a method and an attribute")
        yield from check_methods(node)


def check_methods(cls):
    for node in cls.body:
        if not isinstance(node, ast.FunctionDef):
            continue
        if node.name.startswith("__") and node.name not in DUNDERS:
            yield Fault("L5", node.lineno, "a barred double-underscore method")
        if node.name in BUILTIN_ATTRIBUTES - METHODS:
            yield Fault("L26", node.lineno, "builtin values have this method")
        parts = list(ast.walk(node))
        returns = [part for part in parts if isinstance(part, ast.Return)]
        stored = [part for part in parts if isinstance(part, ast.Attribute) and not isinstance(part.ctx, ast.Load)]
        if node.name == "__init__" and returns:
            yield Fault("L28", node.lineno, "an __init__ returns nothing")
        if node.name in ("__eq__", "__len__", "__repr__", "__str__") or is_property(node):
            if stored or not isinstance(node.body[-1], ast.Return):
                yield Fault("L28", node.lineno, "assigns nothing, and ends with a return")
        if node.name == "__len__" and not all(called_name(part.value) == "len" for part in returns):
            yield Fault("L28", node.lineno, "each return of a __len__ is len(..)")
        if any(part.attr in BUILTIN_ATTRIBUTES - OWN_ATTRIBUTES for part in stored):
            yield Fault("L26", node.lineno, "an attribute has a builtin method's name")


def check_statements(package, name):
    for node in ast.walk(package.trees[name]):
        if isinstance(node, ast.stmt) and not isinstance(node, STATEMENTS):
            yield Fault("L6", node.lineno, "this statement is not used here")
        if isinstance(node, ast.Try) and node.finalbody:
            yield Fault("L6", node.lineno, "no finally is used here")
        if isinstance(node, ast.ExceptHandler):
            kinds = node.type.elts if isinstance(node.type, ast.Tuple) else [node.type]
            fine = package.classes | {"KeyError", "ZeroDivisionError"}
            if not all(isinstance(kind, ast.Name) and kind.id in fine for kind in kinds):
                yield Fault("L19", node.lineno, "this error is not caught here")
        if isinstance(node, ast.Raise) and node.exc is not None:
            if called_name(node.exc) not in package.classes | ERRORS or node.cause is not None:
                yield Fault("L19", node.lineno, "a raise creates its error on the spot")
        if isinstance(node, ast.Expr) and not isinstance(node.value, (ast.Call, ast.Yield, ast.YieldFrom)):
            if node.value not in docstrings_of(package.trees[name]):
                yield Fault("L6", node.lineno, "only a call stands on its own")


def check_values(package, name):
    parents = parents_of(package.trees[name])
    for node in ast.walk(package.trees[name]):
        if isinstance(node, ast.Constant) and isinstance(node.value, (float, complex, bytes, type(...))):
            yield Fault("L7", node.lineno, "a value that is not used here")
        if isinstance(node, (ast.BinOp, ast.AugAssign)) and isinstance(node.op, (ast.Div, ast.MatMult)):
            yield Fault("L7", node.lineno, "no such operator")
        if isinstance(node, ast.BinOp) and isinstance(node.op, ast.Pow):
            if not isinstance(node.right, ast.Constant) or not 0 <= node.right.value <= 64:
                yield Fault("L27", node.lineno, "an exponent is a literal from 0 to 64")
        if isinstance(node, (ast.Await, ast.NamedExpr)):
            yield Fault("L7", node.lineno, "an expression that is not used here")
        if isinstance(node, ast.GeneratorExp):
            parent = parents[node]
            if called_name(parent) not in ("list", "tuple", "dict") and not is_join(parent):
                yield Fault("L7", node.lineno, "a generator expression where a list is needed")
        if isinstance(node, ast.Compare):
            for op, side in zip(node.ops, node.comparators):
                if isinstance(op, (ast.Is, ast.IsNot)):
                    if not isinstance(side, ast.Constant) or repr(side.value) not in ("None", "True", "False"):
                        yield Fault("L20", node.lineno, "is stands beside None, True and False")
        if isinstance(node, ast.Set) and sum(isinstance(item, ast.Constant) for item in node.elts) > 2:
            yield Fault("L13", node.lineno, "a literal set of three")
        if isinstance(node, COMPREHENSIONS) and len(node.generators) > 6:
            yield Fault("L7", node.lineno, "at most six for")
        if isinstance(node, ast.Constant) and isinstance(node.value, str):
            if re.search(r"(^__.*__$|\._$|\.__$)", node.value) or FRAMES.match(node.value):
                yield Fault("L27", node.lineno, "a barred string")
        if isinstance(node, ast.Attribute) and node.attr.startswith("__") and node.attr != "__init__":
            yield Fault("L8", node.lineno, "a double-underscore attribute")


def is_join(node):
    return (isinstance(node, ast.Call) and isinstance(node.func, ast.Attribute) and node.func.attr == "join"
            and isinstance(node.func.value, ast.Constant))


def check_builtins(package, name):
    tree = package.trees[name]
    parents = parents_of(tree)
    own = {bound for bound, _ in bound_names(tree)} | set(imported_names(tree))
    for node in ast.walk(tree):
        if not isinstance(node, ast.Name) or not isinstance(node.ctx, ast.Load) or node.id in own:
            continue
        parent = parents[node]
        if not hasattr(builtins, node.id):
            yield Fault("L8", node.lineno, f"{node.id} is not defined")
        elif node.id in ("property", "staticmethod", "classmethod"):
            if not isinstance(parent, ast.FunctionDef):
                yield Fault("L5", node.lineno, "a decorator as a value")
        elif node.id in ERRORS:
            if not isinstance(parent, (ast.ClassDef, ast.ExceptHandler, ast.Tuple)) and called_name(parent) != node.id:
                yield Fault("L18", node.lineno, "an error class as a value")
        elif called_name(parent) == node.id and parent.func is node:
            yield from check_builtin_call(parent)
        elif not is_kind_in_isinstance(node, parents):
            yield Fault("L22", node.lineno, f"{node.id} is called, not used as a value")


def check_builtin_call(call):
    if call.func.id not in CALLED:
        yield Fault("L8", call.lineno, f"{call.func.id} is not used")
    for keyword in call.keywords:
        if keyword.arg not in KEYWORDS.get(call.func.id, set()):
            yield Fault("L22", call.lineno, "a keyword of a builtin")
    if any(isinstance(part, ast.Starred) for part in call.args) and call.func.id not in ("max", "min", "zip"):
        yield Fault("L7", call.lineno, "a star in a builtin's call")


def is_kind_in_isinstance(node, parents):
    if node.id not in KINDS:
        return False
    parent = parents[node]
    if isinstance(parent, ast.Tuple):
        parent = parents[parent]
    return called_name(parent) == "isinstance"


def check_class_uses(package, name):
    tree = package.trees[name]
    parents = parents_of(tree)
    for node in ast.walk(tree):
        if not isinstance(node, ast.Name) or node.id not in package.classes or not isinstance(node.ctx, ast.Load):
            continue
        parent = parents[node]
        if isinstance(parent, ast.Attribute):
            if parent.attr not in package.class_values | package.methods:
                yield Fault("L18", node.lineno, "no such class value")
        elif isinstance(parent, ast.Call) and parent.func is not node and called_name(parent) != "isinstance":
            yield Fault("L18", node.lineno, "a class is passed on")
        elif not isinstance(parent, (ast.Call, ast.ClassDef, ast.ExceptHandler, ast.Tuple, ast.Raise)):
            yield Fault("L18", node.lineno, "a class as a value")


def check_attributes(package, name):
    tree = package.trees[name]
    parents = parents_of(tree)
    for node in ast.walk(tree):
        if not isinstance(node, ast.Attribute) or node.attr == "__init__":
            continue
        parent = parents[node]
        is_called = isinstance(parent, ast.Call) and parent.func is node
        if is_called and node.attr not in package.methods | METHODS:
            yield Fault("L25", node.lineno, f"no method {node.attr} is allowed")
        if is_called and node.attr in METHODS - package.methods and parent.keywords:
            yield Fault("L25", node.lineno, "no keywords with a builtin value's method")
        known = package.attributes | package.methods | package.class_values
        if not is_called and isinstance(node.ctx, ast.Load) and node.attr not in known:
            yield Fault("L18", node.lineno, f"no class has an attribute {node.attr}")
        if isinstance(node.ctx, ast.Store) and not isinstance(node.value, ast.Name):
            yield Fault("L18", node.lineno, "attributes are assigned through a local name")


def check_properties(package, name):
    """L5: a property has a name of its own, which no method and no class value has."""
    own = {id(node) for node in package.bodies if isinstance(node, ast.FunctionDef) and is_property(node)}
    plain = {node.name for node in package.bodies if isinstance(node, ast.FunctionDef) and id(node) not in own}
    for node in ast.walk(package.trees[name]):
        if id(node) in own and node.name in plain | package.class_values | package.attributes | METHODS:
            yield Fault("L5", node.lineno, "a property's name is used for something else")


def check_stars(package, name):
    """L7: behind a star in a call stand only names, attributes off a name, and literals."""
    for node in ast.walk(package.trees[name]):
        if not isinstance(node, ast.Call):
            continue
        stars = [at for at, part in enumerate(node.args) if isinstance(part, ast.Starred)]
        for part in node.args[stars[0]:] if stars else []:
            inner = part.value if isinstance(part, ast.Starred) else part
            if isinstance(inner, ast.Attribute):
                inner = inner.value
            if not is_plain(inner):
                yield Fault("L7", node.lineno, "this may not stand behind a star")
        if any(keyword.arg is None for keyword in node.keywords):
            yield Fault("L7", node.lineno, "no two stars in a call are used here")


def check_iterated_at_once(package, name):
    tree = package.trees[name]
    parents = parents_of(tree)
    for node in ast.walk(tree):
        if not isinstance(node, ast.Call):
            continue
        called = node.func.attr if isinstance(node.func, ast.Attribute) else called_name(node)
        parent = parents[node]
        if called in package.generators:
            if not is_iterated(node, parent) or called_name(parent) in LISTED_FIRST:
                yield Fault("L23", node.lineno, "a generator is iterated at once, by a list first")
        elif called in AT_ONCE and isinstance(node.func, ast.Name):
            tested = isinstance(parent, ast.Compare) or called_name(parent) in ("len", "reversed")
            if not is_iterated(node, parent) and not (called == "range" and tested):
                yield Fault("L23", node.lineno, f"{called} is iterated at once")
        elif called in VIEWS and not node.args and called not in package.methods:
            if not is_iterated(node, parent):
                yield Fault("L23", node.lineno, f"{called} is iterated at once")
        elif called in ("set", "frozenset", "iter", "next", "map"):
            fine = called_name(parent) in ("len", "sorted") or isinstance(parent, (ast.Compare, ast.Assign))
            if called != "set" or not fine:
                yield Fault("L24", node.lineno, f"{called} stands where it may not")
    for node in ast.walk(tree):
        if isinstance(node, (ast.SetComp, ast.Set)):
            parent = parents[node]
            if called_name(parent) not in ("len", "sorted") and not isinstance(parent, (ast.Compare, ast.Assign)):
                yield Fault("L24", node.lineno, "a set stands where it may not")


def is_iterated(node, parent):
    if isinstance(parent, (ast.For, ast.comprehension)):
        return parent.iter is node
    return isinstance(parent, ast.YieldFrom) or called_name(parent) in ITERATING or is_join(parent)


def check_loops(package, name):
    """L23: what a loop iterates over is not modified in it (seen only where both are written alike)."""
    changing = {"append", "clear", "extend", "insert", "pop", "remove", "reverse", "setdefault", "update", "add"}
    for node in ast.walk(package.trees[name]):
        if not isinstance(node, ast.For):
            continue
        over = [ast.unparse(part) for part in ast.walk(node.iter) if isinstance(part, (ast.Name, ast.Attribute))]
        for part in [part for row in node.body for part in ast.walk(row)]:
            changed = None
            if isinstance(part, ast.Call) and isinstance(part.func, ast.Attribute) and part.func.attr in changing:
                changed = ast.unparse(part.func.value)
            if isinstance(part, ast.Subscript) and not isinstance(part.ctx, ast.Load):
                changed = ast.unparse(part.value)
            if changed in over and called_name(node.iter) not in ("list", "sorted", "tuple"):
                yield Fault("L23", part.lineno, "a loop modifies what it iterates over")


def check_lambdas(package, name):
    lines = [node.lineno for node in ast.walk(package.trees[name]) if isinstance(node, ast.Lambda)]
    for line in sorted(set(lines)):
        if lines.count(line) > 1:
            yield Fault("L13", line, "two lambdas on one line")


CHECKS = [
    check_text, check_words, check_imports, check_module_level, check_names, check_functions, check_classes,
    check_statements, check_values, check_builtins, check_class_uses, check_attributes, check_iterated_at_once,
    check_loops, check_lambdas, check_properties, check_stars,
]


def faults(sources):
    """All faults of a package, given as a dict from the names of its files to their texts, as strings."""
    package = Package(sources)
    found = []
    for name in sources:
        for check in CHECKS:
            found.extend(f"{fault.rule} {name}.py:{fault.line} {fault.why}" for fault in check(package, name))
    return found
