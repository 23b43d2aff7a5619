"""The package keeps LANGUAGE.md, as far as a script can see it; and the script sees what breaks it."""

import ast
import builtins
import os
import re
import unittest
import warnings

PACKAGE = os.path.join(os.path.dirname(os.path.dirname(os.path.abspath(__file__))), "wheneverclear")

LIBRARY = {
    "heapq": "heappush heappop heapify heapreplace heappushpop", "math": "gcd lcm isqrt comb perm factorial",
    "itertools": "product combinations permutations chain accumulate pairwise islice zip_longest",
    "collections": "defaultdict deque",
}
LIBRARY = {module: names.split() for module, names in LIBRARY.items()}

BUILTINS = (
    "len range enumerate zip min max sum abs sorted reversed int str bool bytes list tuple dict set frozenset "
    "isinstance ord repr any all divmod pow getattr hasattr setattr iter next map type super property "
    "staticmethod classmethod Exception ValueError TypeError KeyError IndexError LookupError ZeroDivisionError "
    "ArithmeticError OverflowError RuntimeError NotImplementedError AttributeError StopIteration NotImplemented "
    "object float"
).split()

METHODS = (
    "append clear copy count endswith extend find get index insert isalnum isalpha isdigit islower isspace "
    "isupper items join keys ljust lower lstrip partition pop remove replace reverse rfind rjust rpartition "
    "rsplit rstrip setdefault split splitlines startswith strip update upper values zfill bit_length title "
    "capitalize swapcase casefold center expandtabs removeprefix removesuffix rindex isascii isdecimal isnumeric "
    "istitle isidentifier isprintable add discard appendleft popleft extendleft rotate format"
).split()

# Books have __eq__ and __len__, so no list has its sort called (L25).
MODIFIERS = "append clear extend insert pop remove reverse setdefault update add discard appendleft popleft".split()

BARRED_NAMES = (
    "register mro elements open input law version_info with_traceback add_note attrgetter breakpoint builtins "
    "compile copyright credits delattr dir eval exec exit gc globals help id importlib license locals "
    "methodcaller os quit vars sys print chr hash round filter format callable bytearray memoryview slice complex "
    "object"
).split()

BARRED_WORDS = re.compile(
    r"\b(typing|typing_extensions|enum|Enum|IntEnum|StrEnum|Flag|IntFlag|Generic|Protocol|ABC|ABCMeta|"
    r"namedtuple|NamedTuple|TypedDict|TYPE_CHECKING|abstractmethod)\b|dataclass|overload|contextmanager|_wall|"
    r"_WallAttr|\b_(pe_|dcw_|enum_|cm_|twin_re_|lay_|law_|stub_|sre)"
)

DUNDERS = (
    "init eq repr str len enter exit call iter lt le gt ge ne add sub mul floordiv mod pow and or xor lshift "
    "rshift neg pos invert abs bool contains getitem setitem"
).split()

BARRED_ATTRIBUTES = (
    "items keys values pop update append clear extend insert remove reverse setdefault sort args encode decode hex "
    "fromhex format format_map as_integer_ratio bit_count conjugate from_bytes is_integer to_bytes mro"
).split()

BARRED_NODES = (
    ast.Import, ast.AsyncFunctionDef, ast.AsyncFor, ast.AsyncWith, ast.Await,
    ast.Div, ast.MatMult, ast.Set, ast.TryStar, ast.Global,
)

AT_ONCE = ("zip", "enumerate", "reversed", "range", "map")
TAKERS = "list tuple dict sorted sum any all enumerate zip min max len reversed join".split()
LIST_TAKERS = ("any", "all", "min", "max", "sum", "sorted")


def of_lines(name, text):
    """What is wrong with a file's lines and characters (L10, L14, L17, L27)."""
    lines = text.split("\n")
    if len(lines) - 1 > 399 or not text.endswith("\n"):
        yield f"{name}: L10: a file has at most 399 lines, and ends with one"
    for number, line in enumerate(lines, start=1):
        if len(line) > 120:
            yield f"{name}:{number}: L10: at most 120 characters"
        if not all(" " <= sign <= "~" for sign in line):
            yield f"{name}:{number}: L14: only characters from the space to ~"
        if BARRED_WORDS.search(line):
            yield f"{name}:{number}: L17: a barred word"


def parents(tree):
    """The node above each node."""
    return {child: node for node in ast.walk(tree) for child in ast.iter_child_nodes(node)}


def is_plain_value(node, names):
    """Whether what is assigned at module level is plain (L3)."""
    if isinstance(node, ast.Constant):
        return isinstance(node.value, (int, str, bytes)) or node.value is None
    if isinstance(node, (ast.List, ast.Tuple)):
        return all(is_plain_value(part, names) for part in node.elts)
    if isinstance(node, ast.Dict):
        return all(part and is_plain_value(part, names) for part in node.keys + node.values)
    if isinstance(node, ast.UnaryOp):
        return isinstance(node.op, ast.USub) and is_plain_value(node.operand, names)
    return isinstance(node, ast.Name) and node.id in names


def of_module(name, tree):
    """What is wrong at module level (L2, L3, L15)."""
    bound = []
    for place, node in enumerate(tree.body):
        where = f"{name}:{node.lineno}"
        if isinstance(node, ast.ImportFrom):
            if any(not isinstance(one, (ast.ImportFrom, ast.Expr)) for one in tree.body[:place]):
                yield f"{where}: L2: imports stand at the top"
            bound += [one.asname or one.name for one in node.names]
        elif isinstance(node, (ast.FunctionDef, ast.ClassDef)):
            bound.append(node.name)
        elif isinstance(node, ast.Assign):
            target = node.targets[0]
            if len(node.targets) != 1 or not isinstance(target, ast.Name) or not is_plain_value(node.value, bound):
                yield f"{where}: L3: a name and a plain value"
            else:
                bound.append(target.id)
        elif not (place == 0 and isinstance(node, ast.Expr) and isinstance(node.value, ast.Constant)):
            yield f"{where}: L3: no such statement at module level"
    for one in bound:
        if bound.count(one) > 1:
            yield f"{name}: L15: {one} is bound more than once"


def of_import(name, node, files):
    """What is wrong with an import (L2, L16)."""
    where = f"{name}:{node.lineno}"
    if node.level or any(one.asname or one.name == "*" for one in node.names):
        yield f"{where}: L2: full names, no star, no as"
    elif node.module in LIBRARY:
        if any(one.name not in LIBRARY[node.module] for one in node.names):
            yield f"{where}: L2: not of this library"
    elif not node.module.startswith("wheneverclear.") or node.module.split(".")[-1] not in files:
        yield f"{where}: L2: only modules of the package"
    else:
        for one in node.names:
            if one.name not in files[node.module.split(".")[-1]]:
                yield f"{where}: L16: {one.name} is defined elsewhere"


def of_function(name, node):
    """What is wrong with a function as a whole (L4, L5, L10)."""
    where = f"{name}:{node.lineno}"
    if node.end_lineno - node.lineno + 1 > 40:
        yield f"{where}: L10: at most 40 lines"
    for one in node.decorator_list:
        if ast.unparse(one).split(".")[-1] not in ("property", "setter", "staticmethod", "classmethod"):
            yield f"{where}: L4: no such decorator"
    for one in node.args.defaults + [one for one in node.args.kw_defaults if one]:
        if not is_plain_value(one, []) or isinstance(one, (ast.List, ast.Dict)):
            yield f"{where}: L4: default values are plain"
    if node.name.startswith("__") and node.name[2:-2] not in DUNDERS:
        yield f"{where}: L5: no such method"


def of_names(name, tree):
    """What is wrong with names, new ones and read ones (L8, L12, L15, L17)."""
    own = set()
    imported = set()
    for node in ast.walk(tree):
        if isinstance(node, (ast.FunctionDef, ast.ClassDef)):
            own.add(node.name)
        elif isinstance(node, ast.arg):
            own.add(node.arg)
        elif isinstance(node, ast.Name) and not isinstance(node.ctx, ast.Load):
            own.add(node.id)
        elif isinstance(node, ast.ExceptHandler) and node.name:
            own.add(node.name)
        elif isinstance(node, ast.ImportFrom):
            imported |= {one.name for one in node.names}
    for one in sorted(own):
        # The examples, as they run, leave what they show in builtins under this name.
        if one != "_" and (one in BARRED_NAMES or one in dir(builtins) or one in BUILTINS):
            yield f"{name}: L15, L17: {one} is not to be used as a name"
        if not re.fullmatch(r"_|_?[A-Za-z][A-Za-z0-9_]*", one) and one not in [f"__{word}__" for word in DUNDERS]:
            yield f"{name}: L12: {one} is no plain name"
        if one in imported:
            yield f"{name}: L15: {one} is imported, too"
    for node in ast.walk(tree):
        if isinstance(node, ast.Name) and isinstance(node.ctx, ast.Load):
            if node.id == "_" or node.id not in own | imported and node.id not in BUILTINS:
                yield f"{name}:{node.lineno}: L8: {node.id} is not to be read"


def of_library(name, tree, above):
    """What is wrong with the uses of the library's names: they are called, and nothing else (L2)."""
    imports = [node for node in ast.walk(tree) if isinstance(node, ast.ImportFrom) and node.module in LIBRARY]
    names = {one.name for node in imports for one in node.names}
    for node in ast.walk(tree):
        if isinstance(node, ast.Name) and node.id in names:
            call = above[node]
            if not isinstance(call, ast.Call) or call.func is not node or call.keywords:
                yield f"{name}:{node.lineno}: L2: {node.id} is called, with arguments by position"
            elif any(isinstance(one, ast.Starred) for one in call.args):
                yield f"{name}:{node.lineno}: L7: no star in a call of {node.id}"


def gone_over(node):
    """The names of what a loop or a comprehension goes over."""
    over = node.iter
    if isinstance(over, ast.Call) and isinstance(over.func, ast.Attribute):
        parts = [over.func.value]
    elif isinstance(over, ast.Call):
        # What any other call tells, list(xs) too, is not what it was passed.
        parts = over.args if isinstance(over.func, ast.Name) and over.func.id in AT_ONCE else []
    else:
        parts = [over]
    return {one.id for part in parts for one in ast.walk(part) if isinstance(one, ast.Name)}


def changed_in(node):
    """The names of what a statement or an expression changes by methods that modify, or by its items."""
    target = None
    if isinstance(node, ast.Call) and isinstance(node.func, ast.Attribute) and node.func.attr in MODIFIERS:
        target = node.func.value
    elif isinstance(node, ast.Subscript) and not isinstance(node.ctx, ast.Load):
        target = node.value
    return {one.id for one in ast.walk(target) if isinstance(one, ast.Name)} if target else set()


def of_loops(name, tree):
    """What is wrong with loops: they do not modify what they go over (L23)."""
    for node in ast.walk(tree):
        if isinstance(node, ast.For):
            changed = set().union(*(changed_in(part) for line in node.body for part in ast.walk(line)))
            if changed & gone_over(node):
                yield f"{name}:{node.lineno}: L23: what a loop goes over is modified in it"


def of_attributes(name, tree, known):
    """What is wrong with methods that are called and attributes that are read (L18, L25)."""
    for node in ast.walk(tree):
        if isinstance(node, ast.Attribute):
            if node.attr not in known and node.attr not in METHODS and node.attr != "__init__":
                yield f"{name}:{node.lineno}: L18, L25: {node.attr}"


def is_docstring(node):
    """Whether a statement is a string alone."""
    return isinstance(node, ast.Expr) and isinstance(node.value, ast.Constant)


def is_exit_row(node, own):
    """Whether a statement may stand in __exit__ (L6); own is the local name of an attribute of self."""
    if isinstance(node, ast.If):
        asked = node.test.values if isinstance(node.test, ast.BoolOp) else [node.test]
        for one in asked:
            is_none = isinstance(one, ast.Compare) and isinstance(one.ops[0], (ast.Is, ast.IsNot))
            if not is_none or ast.unparse(one.comparators[0]) != "None":
                return False
        return all(is_exit_row(row, own) for row in node.body + node.orelse)
    if not isinstance(node, ast.Assign) or len(node.targets) != 1:
        return isinstance(node, ast.Pass)
    target, value = node.targets[0], node.value
    if not isinstance(value, (ast.Attribute, ast.Name)) and ast.unparse(value) not in ("True", "False", "None"):
        return False
    if isinstance(target, ast.Name):
        return target.id == own and ast.unparse(value).startswith("self.")
    return isinstance(target, ast.Attribute) and ast.unparse(target.value) in ("self", own)


def of_exit(name, node):
    """What is wrong with an __exit__ (L6): it only puts things back."""
    where = f"{name}:{node.lineno}"
    if [one.arg for one in node.args.args] != ["self", "kind", "value", "trace"]:
        yield f"{where}: L6: __exit__(self, kind, value, trace)"
    locals_ = [row.targets[0].id for row in node.body if isinstance(row, ast.Assign)
               and isinstance(row.targets[0], ast.Name)]
    own = locals_[0] if len(locals_) == 1 else None
    for row in node.body:
        if not is_docstring(row) and not is_exit_row(row, own):
            yield f"{where}: L6: no such row in __exit__"
    if any(isinstance(one, ast.Name) and one.id in ("value", "trace") for row in node.body for one in ast.walk(row)):
        yield f"{where}: L6: value and trace are not read in __exit__"


def of_class(name, node, errors):
    """What is wrong with a class: its body, its bases, its methods and attributes (L5, L18, L26, L28)."""
    where = f"{name}:{node.lineno}"
    methods = [one for one in node.body if isinstance(one, ast.FunctionDef)]
    names = [one.name for one in methods]
    if node.decorator_list or node.keywords:
        yield f"{where}: L5: no decorator over a class"
    for base in node.bases:
        if not isinstance(base, ast.Name) or base.id not in errors and base.id != "ValueError":
            yield f"{where}: L5: no such base class"
    for one in node.body:
        if not isinstance(one, (ast.FunctionDef, ast.Pass)) and not is_docstring(one):
            yield f"{where}: L5: methods alone"
    stored = {
        one.attr for one in ast.walk(node)
        if isinstance(one, ast.Attribute) and isinstance(one.ctx, ast.Store) and ast.unparse(one.value) == "self"
    }
    if len(set(names)) != len(names) or stored & set(names):
        yield f"{where}: L18: a name is one method, or an attribute"
    if stored & set(BARRED_ATTRIBUTES):
        yield f"{where}: L26: no attribute has such a name"
    for method in methods:
        told = [one for one in ast.walk(method) if isinstance(one, ast.Return)]
        changes = set().union(*(changed_in(one) for one in ast.walk(method)))
        if method.name == "__init__" and told:
            yield f"{name}:{method.lineno}: L28: __init__ returns nothing"
        if method.name in ("__eq__", "__len__") and (changes or len(method.body) > 2):
            yield f"{name}:{method.lineno}: L28: it only tells"
        if method.name == "__exit__":
            yield from of_exit(name, method)


def of_handler(name, node, errors):
    """What is wrong with what a try catches (L19): own errors, and three of Python's."""
    told = node.type.elts if isinstance(node.type, ast.Tuple) else [node.type]
    for one in told:
        if one is not None and ast.unparse(one) not in {*errors, "KeyError", "ZeroDivisionError", "StopIteration"}:
            yield f"{name}:{node.lineno}: L19: {ast.unparse(one)} is not caught"


def of_calls(name, tree, methods):
    """What is wrong with calls of methods (L22, L24), and with lambdas (L13); methods are those of the package."""
    sets = {
        node.targets[0].id for node in ast.walk(tree) if isinstance(node, ast.Assign)
        and isinstance(node.targets[0], ast.Name) and ast.unparse(node.value).startswith(("set(", "{"))
        and not isinstance(node.value, (ast.Dict, ast.DictComp))
    }
    rows = []
    for node in ast.walk(tree):
        if isinstance(node, ast.Lambda):
            rows.append((node.lineno, [one.arg for one in node.args.args]))
        if isinstance(node, ast.Call) and isinstance(node.func, ast.Attribute):
            where = f"{name}:{node.lineno}"
            if node.keywords and node.func.attr in METHODS:
                yield f"{where}: L22: no keywords with {node.func.attr}"
            if node.func.attr in ("add", "discard") and node.func.attr in methods:
                if isinstance(node.func.value, ast.Name) and node.func.value.id in sets:
                    yield f"{where}: L24: a class has such a method, so no set has it called"
    for row in rows:
        if rows.count(row) > 1:
            yield f"{name}:{row[0]}: L13: two lambdas alike on one line"


def of_iterators(name, node, above):
    """What is wrong with what is to be iterated at once, and with sets (L7, L23, L24)."""
    where = f"{name}:{node.lineno}"
    over = above[node]
    taker = over.func.id if isinstance(over, ast.Call) and isinstance(over.func, ast.Name) else ""
    if isinstance(over, ast.Call) and isinstance(over.func, ast.Attribute):
        taker = over.func.attr
    is_looped = isinstance(over, (ast.For, ast.comprehension)) and over.iter is node
    if isinstance(node, ast.GeneratorExp) and taker in LIST_TAKERS:
        yield f"{where}: L7: a list in the place of a generator expression"
    if isinstance(node, ast.SetComp) and taker not in ("sorted", "len"):
        if not isinstance(over, (ast.Compare, ast.Assign)):
            yield f"{where}: L24: a set stands behind in, or in sorted or len"
    if isinstance(node, ast.Call) and isinstance(node.func, ast.Name) and node.func.id in AT_ONCE:
        if not is_looped and taker not in TAKERS and not isinstance(over, ast.Assign):
            yield f"{where}: L23: iterated at once"


def of_node(name, node):
    """What is wrong with one expression or statement (L6, L7, L19, L20, L27)."""
    where = f"{name}:{getattr(node, 'lineno', 0)}"
    if isinstance(node, BARRED_NODES):
        yield f"{where}: L6, L7: no {node.__class__.__name__}"
    if isinstance(node, ast.Constant) and isinstance(node.value, (float, complex)):
        yield f"{where}: L7: no float"
    if isinstance(node, ast.Constant) and isinstance(node.value, str) and "%" in node.value:
        yield f"{where}: L27: no such character"
    if isinstance(node, ast.Compare):
        sides = [node.left] + node.comparators
        for place, sign in enumerate(node.ops):
            if isinstance(sign, (ast.Is, ast.IsNot)) and not isinstance(sides[place + 1], ast.Constant):
                yield f"{where}: L20: is, beside None, True and False alone"
    if isinstance(node, ast.ExceptHandler) and node.type is None:
        yield f"{where}: L19: named errors alone"
    if isinstance(node, ast.Raise) and node.exc:
        if not isinstance(node.exc, ast.Call) or not isinstance(node.exc.func, ast.Name):
            yield f"{where}: L19: raise creates its error on the spot"
    if isinstance(node, ast.Lambda) and isinstance(getattr(node, "body", None), ast.Yield):
        yield f"{where}: L4: no yield in a lambda"


def defined_in(tree):
    """The names that a file defines at module level."""
    found = set()
    for node in tree.body:
        if isinstance(node, (ast.FunctionDef, ast.ClassDef)):
            found.add(node.name)
        elif isinstance(node, ast.Assign):
            found |= {one.id for one in node.targets if isinstance(one, ast.Name)}
    return found


def attributes_of(tree):
    """The attributes that a file assigns, and the methods of its classes."""
    found = set()
    for node in ast.walk(tree):
        if isinstance(node, ast.Attribute) and isinstance(node.ctx, ast.Store):
            found.add(node.attr)
        elif isinstance(node, ast.ClassDef):
            found |= {one.name for one in node.body if isinstance(one, ast.FunctionDef)}
    return found


def circles(trees):
    """The files that import themselves by way of others (L16)."""
    ways = {}
    for name, tree in trees.items():
        modules = [node.module or "" for node in ast.walk(tree) if isinstance(node, ast.ImportFrom)]
        ways[name] = {module.split(".")[-1] for module in modules if module.startswith("wheneverclear.")} & set(trees)
    for name in sorted(ways):
        reached, fresh = set(), set(ways[name])
        while fresh:
            reached |= fresh
            fresh = {far for near in fresh for far in ways[near]} - reached
        if name in reached:
            yield f"{name}: L16: it imports itself by way of others"


def broken(texts):
    """All that a package, {file without its ending: text}, breaks."""
    trees = {name: ast.parse(text) for name, text in texts.items()}
    files = {name: defined_in(tree) for name, tree in trees.items()}
    known = set().union(*(attributes_of(tree) for tree in trees.values()))
    nodes = [node for tree in trees.values() for node in ast.walk(tree)]
    classes = {node.name for node in nodes if isinstance(node, ast.ClassDef)}
    methods = {one.name for node in nodes if isinstance(node, ast.ClassDef) for one in node.body
               if isinstance(one, ast.FunctionDef)}
    found = list(circles(trees))
    for name, tree in trees.items():
        above = parents(tree)
        found += [*of_lines(name, texts[name]), *of_module(name, tree)]
        found += [*of_names(name, tree), *of_attributes(name, tree, known)]
        found += [*of_library(name, tree, above), *of_loops(name, tree), *of_calls(name, tree, methods)]
        for node in ast.walk(tree):
            found += of_node(name, node)
            if isinstance(node, ast.ImportFrom):
                found += of_import(name, node, files)
            elif isinstance(node, ast.FunctionDef):
                found += of_function(name, node)
            elif isinstance(node, (ast.GeneratorExp, ast.SetComp, ast.Call)):
                found += of_iterators(name, node, above)
            elif isinstance(node, ast.ExceptHandler):
                found += of_handler(name, node, classes)
            elif isinstance(node, ast.ClassDef):
                found += of_class(name, node, classes)
                if not isinstance(above[node], ast.Module):
                    found.append(f"{name}:{node.lineno}: L15: classes stand at module level")
    return found


def texts_of_the_package():
    """The text of each file of the package."""
    texts = {}
    for name in sorted(os.listdir(PACKAGE)):
        if name.endswith(".py"):
            with open(os.path.join(PACKAGE, name), encoding="utf-8", newline="") as file:
                texts[name.removesuffix(".py")] = file.read()
    return texts


class PackageTest(unittest.TestCase):
    def test_nothing_is_broken(self):
        self.assertEqual(broken(texts_of_the_package()), [])

    def test_the_folder_holds_plain_files_alone(self):
        names = sorted(name for name in os.listdir(PACKAGE) if name != "__pycache__")
        self.assertIn("__init__.py", names)
        for name in names:
            self.assertRegex(name, r"^([a-z][a-z0-9_]*|__init__|__main__)\.py$")
            self.assertTrue(os.path.isfile(os.path.join(PACKAGE, name)))
            self.assertNotIn(name.removesuffix(".py"), BARRED_NAMES + BUILTINS + list(LIBRARY))

    def test_all_files_compile_without_a_warning(self):
        for name, text in texts_of_the_package().items():
            with warnings.catch_warnings():
                warnings.simplefilter("error")
                compile(text, name, "exec")


class ScriptTest(unittest.TestCase):
    """Each of these breaks a rule, and the script sees it."""

    def seen(self, text, rule):
        found = broken({"part": text, "other": "def there():\n    return 1\n"})
        self.assertTrue([one for one in found if rule in one], (text, found))

    def test_what_keeps_the_rules(self):
        text = '"""A file."""\n\nfrom math import gcd\n\nLIMIT = 4\n\n\n'
        text += "def least(rows):\n    return gcd(LIMIT, min([len(row) for row in rows]))\n"
        self.assertEqual(broken({"part": text}), [])

    def test_sizes_and_characters(self):
        self.seen("LONG = 1  # " + "x" * 110 + "\n", "L10")
        self.seen("A = 1\n" + "# line\n" * 399, "L10")
        self.seen("def f():\n" + "    pass\n" * 40, "L10")
        self.seen("def f():\n\treturn 1\n", "L14")
        self.seen("# \u00e9\n", "L14")

    def test_imports(self):
        for line in ("import math", "import os", "from os import path", "from math import sqrt",
                     "from math import gcd as g", "from wheneverclear.other import *", "from .other import there",
                     "from wheneverclear.none import there",
                     "from random import random", "from collections import Counter",
                     "from wheneverclear.other import lacks"):
            self.seen(line + "\n", "L")
        self.seen("A = 1\nfrom math import gcd\n", "L2")
        one, other = ast.parse("from wheneverclear.b import x"), ast.parse("from wheneverclear.a import y")
        self.assertEqual(len(list(circles({"a": one, "b": other}))), 2)
        self.assertEqual(len(list(circles({"a": one, "b": ast.parse("B = 1")}))), 0)

    def test_module_level(self):
        for line in ("print(1)", "A = len('a')", "A, B = 1, 2", "for k in (1, 2):\n    A = k", "A = 1\nA = 2",
                     "if 1:\n    A = 1"):
            self.seen(line + "\n", "L")

    def test_names(self):
        for line in ("def hash():\n    return 1", "def f(open):\n    return open", "def f():\n    print(1)",
                     "def f(x):\n    return hash(x)",
                     "def f():\n    len = 3\n    return len", "class A:\n    def __hash__(self):\n        return 1",
                     "def __f():\n    return 1",
                     "from math import gcd\n\n\ndef f(gcd):\n    return gcd", "def f(x):\n    return x.encode()",
                     "def f(x):\n    return x.lacks"):
            self.seen(line + "\n", "L")

    def test_names_of_the_library(self):
        for line in ("return sorted(x, key=gcd)", "return gcd(*x)", "f = gcd\n    return f(x, 1)", "return [gcd]"):
            self.seen(f"from math import gcd\n\n\ndef f(x):\n    {line}\n", "L")

    def test_loops_that_modify_what_they_go_over(self):
        for over in ("x", "enumerate(x)", "zip(y, x)", "x.items()", "x[0]"):
            for line in ("x.append(1)", "x[0] = 1", "x[0] += 1", "del x[0]", "x[0].pop()", "y = [x.pop()]"):
                self.seen(f"def f(x, y):\n    for k in {over}:\n        {line}\n", "L23")
        text = "def f(x, y):\n    for k in x:\n        y.append(k)\n    for k in list(x):\n        x.append(k)\n"
        self.assertEqual(broken({"part": text}), [])

    def test_classes(self):
        for body in ("A = []", "def f(self):\n        self.f = 1", "def f(self):\n        self.items = 1",
                     "def __init__(self):\n        return None",
                     "def f(self):\n        pass\n\n    def f(self):\n        pass",
                     "def __eq__(self, other):\n        self.a.append(1)\n        return True",
                     "def __enter__(self, one, *, clear):\n        return one.copy(clear=clear)"):
            self.seen(f"class A:\n    {body}\n", "L")
        self.seen("class A(int):\n    pass\n", "L5")
        self.seen("def f(x):\n    return x\n\n\n@f\nclass A:\n    pass\n", "L5")
        text = "class Bag:\n    def add(self, x):\n        return x\n\n\ndef f(x):\n    seen = set()\n    seen.add(x)\n"
        self.seen(text, "L24")

    def test_exits(self):
        start = "class A:\n    def __init__(self, net):\n        self.net = net\n        self.kept = None\n\n"
        start += "    def __exit__(self, kind, value, trace):\n        net = self.net\n        "
        right = "if kind is not None or self.kept is None:\n            net.kept = self.kept\n        net.net = None"
        self.assertEqual(broken({"part": start + right + "\n"}), [])
        for row in ("net.kept = trace", "return True", "net.put(self)", "net.kept = len(self.kept)", "net.kept += 1",
                    "if self.kept:\n            pass", "if kind == 1:\n            pass", "net = self.kept",
                    "net.kept = self.kept + [1]", "for k in net.kept:\n            pass"):
            self.seen(start + row + "\n", "L6")
        self.seen(start.replace("kind, value, trace", "a, b, c") + "pass\n", "L6")

    def test_what_is_caught(self):
        for error in ("ValueError", "IndexError", "Exception", "(KeyError, TypeError)", "LookupError"):
            self.seen(f"def f(x):\n    try:\n        return x[0]\n    except {error}:\n        return 1\n", "L19")
        text = "class Bad(ValueError):\n    pass\n\n\ndef f(x):\n    try:\n        return x[0]\n"
        text += "    except (Bad, KeyError):\n        return 1\n"
        self.assertEqual(broken({"part": text}), [])

    def test_lambdas(self):
        self.seen("def f(x):\n    return [lambda k: k, lambda k: x]\n", "L13")

    def test_statements_and_expressions(self):
        for line in ("return 1 / 2", "return 0.5", "return {1, 2}", "return x is y", "return '%'",
                     "return any(k for k in x)", "x.sort()",
                     "return zip(x, y)", "return {k for k in x}", "raise x", "raise x.y()", "return enumerate(x)",
                     "global A"):
            self.seen(f"def f(x, y):\n    {line}\n", "L")
        self.seen("def f(x=[]):\n    return x\n", "L4")
        self.seen("def f(x):\n    try:\n        return x[0]\n    except:\n        return 1\n", "L19")
        self.seen("@staticmethod.made\ndef f(x):\n    return x\n", "L4")
        self.seen("def f():\n    class A:\n        pass\n    return A()\n", "L15")


if __name__ == "__main__":
    unittest.main()
