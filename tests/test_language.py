"""That the package keeps to ../shared/LANGUAGE.md, as far as a test can look at it."""

import ast
import builtins
import io
import pathlib
import re
import tokenize
import unittest

PACKAGE = pathlib.Path(__file__).resolve().parent.parent / "emptybox"

BUILTINS = set("""len range enumerate zip min max sum abs sorted reversed int str bool bytes list tuple dict set
    frozenset isinstance ord repr any all divmod Exception ValueError TypeError KeyError IndexError LookupError
    ZeroDivisionError ArithmeticError OverflowError RuntimeError NotImplementedError AttributeError
    StopIteration NotImplemented""".split())
BARRED_WORDS = set("""type typing typing_extensions enum Enum IntEnum StrEnum Flag IntFlag Generic Protocol ABC
    ABCMeta namedtuple NamedTuple TypedDict TYPE_CHECKING abstractmethod""".split())
BARRED_PARTS = ("dataclass", "overload", "contextmanager")
BARRED_NAMES = set("""register mro elements open input version_info with_traceback add_note attrgetter breakpoint
    builtins compile copyright credits delattr dir eval exec exit gc getattr globals hasattr help id importlib
    license locals methodcaller os quit setattr super type vars sys""".split())
DOUBLE = set("""__init__ __eq__ __repr__ __str__ __len__ __enter__ __exit__ __call__ __iter__ __bool__ __contains__
    __lt__ __le__ __gt__ __ge__ __ne__ __getitem__ __setitem__ __add__ __sub__ __mul__ __neg__""".split())
BARRED_FILES = {"test", "tests", "testing", "site", "conftest", "sitecustomize", "usercustomize"}
VALUE_METHODS = {name for kind in (str, bytes, int, list, tuple, dict, set)
                 for name in vars(kind) if not name.startswith("__")}
METHODS = set("""append clear copy count endswith extend find get index insert isalnum isalpha isdigit islower
    isspace isupper items join keys ljust lower lstrip partition pop remove replace reverse rfind rjust rpartition
    rsplit rstrip setdefault split splitlines startswith strip update upper values zfill bit_length title
    capitalize swapcase casefold center expandtabs removeprefix removesuffix rindex isascii isdecimal isnumeric
    istitle isidentifier isprintable translate maketrans sort add discard encode decode hex fromhex to_bytes
    from_bytes""".split())
OWN_METHODS = set("""add discard append clear copy count endswith extend find get index insert isalnum isalpha isdigit
    islower isspace isupper items join keys ljust lower lstrip partition pop remove replace reverse rfind rjust
    rpartition rsplit rstrip setdefault split splitlines startswith strip update upper values zfill
    bit_length""".split())
OWN_ATTRIBUTES = set("count index title find get join lower upper split strip copy add".split())
BARRED_NODES = (ast.Global, ast.AsyncFunctionDef, ast.AsyncFor, ast.AsyncWith, ast.Await, ast.Div, ast.MatMult)
FUNCTIONS = (ast.FunctionDef, ast.Lambda)
KEYWORDS = {"sorted": {"key", "reverse"}, "min": {"key", "default"}, "max": {"key", "default"},
            "sum": {"start"}, "enumerate": {"start"}, "zip": {"strict"}}
TAKERS = set("list tuple dict sorted sum min max any all".split())
RUNS = set("zip enumerate reversed range".split())
VIEWS = {"items", "keys", "values"}
PLAIN_VALUES = (ast.Constant, ast.List, ast.Tuple, ast.Dict, ast.Name, ast.UnaryOp, ast.BinOp, ast.operator,
                ast.unaryop, ast.expr_context)


def size_faults(text):
    rows = text.splitlines()
    faults = ["L10 file"] if len(rows) > 400 else []
    faults += [f"L10 row {at + 1}" for at, row in enumerate(rows) if len(row) > 120 or "\t" in row]
    faults += [f"L10 function {node.name}" for node in ast.walk(ast.parse(text))
               if isinstance(node, ast.FunctionDef) and node.end_lineno - node.lineno >= 40]
    return faults


def character_faults(text):
    faults = ["L14 character" for sign in text if sign != "\n" and not " " <= sign <= "~"]
    faults += [f"L17 {word}" for word in re.findall(r"\w+", text) if word in BARRED_WORDS]
    faults += [f"L17 {part}" for part in BARRED_PARTS if part in text]
    for token in tokenize.generate_tokens(io.StringIO(text).readline):
        if token.type == tokenize.STRING or "FSTRING" in tokenize.tok_name[token.type]:
            faults += ["L27 percent sign"] if "%" in token.string else []
            faults += ["L27 escape"] if re.search(r"\\[^nt\\'\"]", token.string) else []
    return faults


def bound_names(node):
    """The names that a node gives a meaning."""
    if isinstance(node, ast.Name) and not isinstance(node.ctx, ast.Load):
        return [node.id]
    if isinstance(node, (ast.FunctionDef, ast.ClassDef)):
        return [node.name]
    if isinstance(node, ast.arg):
        return [node.arg]
    if isinstance(node, ast.ExceptHandler) and node.name:
        return [node.name]
    if isinstance(node, ast.alias):
        return [node.asname or node.name]
    return []


def name_faults(tree):
    faults = []
    methods = {part for node in ast.walk(tree) if isinstance(node, ast.ClassDef) for part in node.body}
    for node in ast.walk(tree):
        for name in bound_names(node):
            method = node in methods
            if not re.fullmatch("[A-Za-z][A-Za-z0-9_]*", name) and not (method and name in DOUBLE):
                faults.append(f"L12 {name}")
            if name in BARRED_NAMES or (hasattr(builtins, name) and not method):
                faults.append(f"L15 {name}")
        if isinstance(node, ast.Name) and hasattr(builtins, node.id) and node.id not in BUILTINS | {"super"}:
            faults.append(f"L8 {node.id}")
        if isinstance(node, ast.Attribute):
            if node.attr.startswith("_") and node.attr != "__init__":
                faults.append(f"L12 {node.attr}")
            if node.attr in VALUE_METHODS - METHODS:
                faults.append(f"L25 {node.attr}")
    return faults


def shadow_faults(tree):
    """Names of classes and imports that mean something else within a function."""
    taken = {name for node in tree.body if isinstance(node, (ast.ClassDef, ast.ImportFrom))
             for part in [node, *ast.iter_child_nodes(node)] for name in bound_names(part)
             if isinstance(part, (ast.alias, ast.ClassDef))}
    inner = [node for whole in ast.walk(tree) if isinstance(whole, FUNCTIONS) for node in ast.walk(whole)]
    return [f"L15 {name}" for node in inner if isinstance(node, (ast.Name, ast.arg))
            for name in bound_names(node) if name in taken]


def is_docstring(node):
    return isinstance(node, ast.Expr) and isinstance(node.value, ast.Constant) and isinstance(node.value.value, str)


def module_faults(tree):
    faults, names, past_imports = [], [], False
    for at, node in enumerate(tree.body):
        if isinstance(node, ast.ImportFrom):
            faults += ["L2 import below the top"] if past_imports else []
            names += [name for part in node.names for name in bound_names(part)]
        elif not (at == 0 and is_docstring(node)):
            past_imports = True
            if not isinstance(node, (ast.FunctionDef, ast.ClassDef, ast.Assign, ast.AnnAssign)):
                faults.append(f"L3 {type(node).__name__}")
            names += bound_names(node)
            names += [name for part in getattr(node, "targets", []) for name in bound_names(part)]
    return faults + [f"L15 {name} bound twice" for name in set(names) if names.count(name) > 1]


def import_faults(tree, package):
    """package: for each module's full name, the names that it defines."""
    faults = ["L16 import" for node in ast.walk(tree) if isinstance(node, ast.Import)]
    for node in ast.walk(tree):
        if isinstance(node, ast.ImportFrom) and node.module != "__future__":
            if node.level or node.module not in package or node not in tree.body:
                faults.append(f"L2 {node.module}")
            else:
                faults += [f"L16 {part.name}" for part in node.names if part.name not in package[node.module]]
    return faults


def is_plain_truth(node):
    return isinstance(node, ast.Constant) and (node.value is None or isinstance(node.value, bool))


def node_faults(tree):
    faults = [f"L6 {type(node).__name__}" for node in ast.walk(tree) if isinstance(node, BARRED_NODES)]
    for node in ast.walk(tree):
        if isinstance(node, ast.Constant) and isinstance(node.value, (float, complex)):
            faults.append("L7 float")
        if isinstance(node, (ast.FunctionDef, ast.ClassDef)):
            faults += [f"L4 decorator over {node.name}" for part in node.decorator_list
                       if getattr(part, "id", None) not in ("property", "staticmethod", "classmethod")
                       and getattr(part, "attr", None) != "setter"]
        if isinstance(node, ast.arguments) and node.posonlyargs:
            faults.append("L4 slash")
        if isinstance(node, ast.Compare):
            for sign, one, other in zip(node.ops, [node.left, *node.comparators], node.comparators):
                if isinstance(sign, (ast.Is, ast.IsNot)) and not (is_plain_truth(one) or is_plain_truth(other)):
                    faults.append("L20 is")
        if isinstance(node, ast.ExceptHandler) and (node.type is None or ast.unparse(node.type) in (
                "Exception", "BaseException", "TypeError")):
            faults.append("L19 except")
    return faults


def parents_in(tree):
    return {part: node for node in ast.walk(tree) for part in ast.iter_child_nodes(node)}


def called(node):
    """The bare name that is called, "" where there is none."""
    return node.func.id if isinstance(node, ast.Call) and isinstance(node.func, ast.Name) else ""


def is_literal_join(node):
    return (isinstance(node, ast.Call) and isinstance(node.func, ast.Attribute) and node.func.attr == "join"
            and isinstance(node.func.value, ast.Constant))


def is_looped_over(node, parent):
    return isinstance(parent, (ast.For, ast.comprehension)) and parent.iter is node


def is_run(node):
    """Whether it's to be gone through on the spot."""
    view = isinstance(node, ast.Call) and isinstance(node.func, ast.Attribute) and node.func.attr in VIEWS
    return called(node) in RUNS or view


def is_set(node):
    return isinstance(node, (ast.Set, ast.SetComp)) or called(node) == "set"


def set_stands_right(node, parent):
    if isinstance(parent, ast.Compare):
        return all(isinstance(sign, (ast.In, ast.NotIn, ast.Eq, ast.NotEq)) for sign in parent.ops)
    if isinstance(parent, ast.BinOp):
        return isinstance(parent.op, (ast.Sub, ast.BitAnd, ast.BitOr, ast.BitXor))
    return called(parent) in ("sorted", "len") or (isinstance(parent, ast.Assign) and len(parent.targets) == 1)


def place_faults(tree):
    """What stands where it mustn't."""
    faults, parents = [], parents_in(tree)
    for node in ast.walk(tree):
        parent = parents.get(node)
        if isinstance(node, ast.GeneratorExp) and not (called(parent) in TAKERS or is_literal_join(parent)):
            faults.append("L7 generator expression")
        if is_run(node) and not (is_looped_over(node, parent) or is_literal_join(parent)
                                 or called(parent) in TAKERS | {"enumerate", "zip", "bytes"}
                                 or (called(node) == "range" and called(parent) in ("reversed", "len"))
                                 or (isinstance(parent, ast.Compare) and isinstance(parent.ops[0], ast.In))):
            faults.append("L23 not gone through at once")
        if is_set(node) and not set_stands_right(node, parent):
            faults.append("L24 set")
        if isinstance(node, ast.Set) and len(node.elts) > 2 and not isinstance(parent, ast.Compare):
            faults.append("L13 set")
    return faults


def call_faults(tree):
    faults = []
    for node in ast.walk(tree):
        if called(node) in BUILTINS:
            faults += [f"L22 {part.arg}" for part in node.keywords
                       if part.arg not in KEYWORDS.get(called(node), ())]
        if isinstance(node, ast.Call) and isinstance(node.func, ast.Attribute) and node.func.attr in METHODS:
            faults += [f"L25 {part.arg}" for part in node.keywords
                       if (node.func.attr, part.arg) not in (("sort", "key"), ("sort", "reverse"))]
        if isinstance(node, ast.Raise) and node.exc and not called(node.exc):
            faults.append("L19 raise")
        if isinstance(node, ast.BinOp) and isinstance(node.op, ast.Pow):
            if not (isinstance(node.right, ast.Constant) and 0 <= node.right.value <= 64):
                faults.append("L27 power")
    return faults


def value_faults(tree):
    """Values at module level that aren't plain."""
    values = [node.value for node in tree.body if isinstance(node, (ast.Assign, ast.AnnAssign)) and node.value]
    return [f"L3 {type(part).__name__}" for value in values for part in ast.walk(value)
            if not isinstance(part, PLAIN_VALUES)]


def nested_faults(tree):
    """Lists and dicts at module level that hold lists or dicts."""
    values = [node.value for node in tree.body if isinstance(node, (ast.Assign, ast.AnnAssign)) and node.value]
    outer = [part for value in values for part in ast.walk(value) if isinstance(part, (ast.List, ast.Dict))]
    return ["L15 list in a list" for one in outer for part in ast.walk(one)
            if part is not one and isinstance(part, (ast.List, ast.Dict))]


def init_faults(tree):
    return ["L28 return" for node in ast.walk(tree) if isinstance(node, ast.FunctionDef) and node.name == "__init__"
            for part in ast.walk(node) if isinstance(part, ast.Return) and part.value]


def class_faults(texts):
    """What can be seen of methods and attributes in all files together only."""
    nodes = [node for text in texts for node in ast.walk(ast.parse(text))]
    bodies = [part for node in nodes if isinstance(node, ast.ClassDef) for part in node.body]
    methods = {part.name for part in bodies if isinstance(part, ast.FunctionDef)}
    stored = {node.attr for node in nodes if isinstance(node, ast.Attribute) and isinstance(node.ctx, ast.Store)}
    read = {node.attr for node in nodes if isinstance(node, ast.Attribute) and isinstance(node.ctx, ast.Load)}
    faults = [f"L18 {name} is a method and an attribute" for name in methods & stored]
    faults += [f"L18 {name} is assigned nowhere" for name in read - stored - methods - METHODS - {"__init__"}]
    faults += [f"L26 {name}" for name in methods & VALUE_METHODS - OWN_METHODS]
    faults += [f"L26 {name}" for name in stored & VALUE_METHODS - OWN_ATTRIBUTES]
    faults += [f"L5 {type(part).__name__}" for part in bodies
               if not isinstance(part, (ast.FunctionDef, ast.Assign)) and not is_docstring(part)]
    return faults


def defined_in(text):
    """The names that a file defines itself."""
    body = ast.parse(text).body
    plain = [name for node in body for name in bound_names(node)]
    return plain + [name for node in body for part in getattr(node, "targets", []) for name in bound_names(part)]


def faults_of(text, package):
    tree = ast.parse(text)
    return (size_faults(text) + character_faults(text) + name_faults(tree) + shadow_faults(tree)
            + module_faults(tree) + import_faults(tree, package) + node_faults(tree)
            + place_faults(tree) + call_faults(tree) + value_faults(tree) + nested_faults(tree)
            + init_faults(tree))


def imported_by(text):
    return {node.module for node in ast.walk(ast.parse(text)) if isinstance(node, ast.ImportFrom)}


def has_circle(imports):
    """Whether some file comes to import itself, imports telling for each file what it imports."""
    left = dict(imports)
    while left:
        ready = [name for name in left if not left[name] & set(left)]
        if not ready:
            return True
        for name in ready:
            del left[name]
    return False


def file_fault(name):
    stem = name[:-3]
    if not re.fullmatch(r"[a-z0-9_]+\.py", name):
        return True
    if stem in ("__init__", "__main__"):
        return False
    return (stem in BARRED_FILES | BARRED_WORDS or stem.startswith(("_", "test_", "law_"))
            or hasattr(builtins, stem))


def package_texts():
    paths = sorted(PACKAGE.rglob("*.py"))
    return {".".join(["emptybox", *path.relative_to(PACKAGE).with_suffix("").parts]): path.read_text("utf-8")
            for path in paths}


class Package(unittest.TestCase):
    def test_files(self):
        paths = [path for path in PACKAGE.iterdir() if path.name != "__pycache__"]
        self.assertIn("__init__.py", [path.name for path in paths])
        self.assertLessEqual(len(paths), 100)
        for path in paths:
            self.assertTrue(path.is_file())
            self.assertFalse(file_fault(path.name), path.name)

    def test_no_tests_inside(self):
        for text in package_texts().values():
            self.assertNotIn("unittest", text)

    def test_each_file_keeps_the_rules(self):
        texts = package_texts()
        package = {name: defined_in(text) for name, text in texts.items()}
        self.assertGreaterEqual(len(texts), 18)
        for name, text in texts.items():
            self.assertEqual(faults_of(text, package), [], name)

    def test_classes(self):
        self.assertEqual(class_faults(package_texts().values()), [])

    def test_no_circle_of_imports(self):
        self.assertFalse(has_circle({name: imported_by(text) for name, text in package_texts().items()}))


class Checks(unittest.TestCase):
    """That what is looked at above would be found."""

    def found(self, text, rule):
        faults = faults_of(text, {"emptybox.rooms": ["is_box"]})
        self.assertTrue(any(fault.startswith(rule + " ") for fault in faults), (text, faults))

    def test_nothing_found(self):
        text = ('"""A file."""\n\nfrom emptybox.rooms import is_box\n\nMOST = 3\n\n\n'
                'def ask(room):\n    return is_box(room, 0)\n')
        self.assertEqual(faults_of(text, {"emptybox.rooms": ["is_box"]}), [])

    def test_sizes(self):
        self.found("x = 1\n" + "\n" * 400, "L10")
        self.found("x = '" + "a" * 116 + "'\n", "L10")
        self.found("def f():\n\treturn 1\n", "L10")
        self.found("def f():\n" + "    f()\n" * 40, "L10")
        self.assertEqual(size_faults("def f():\n" + "    f()\n" * 39 + "#" * 120 + "\n" + "\n" * 359), [])

    def test_characters_and_words(self):
        self.found("# \u00e4\n", "L14")
        self.found("# the type of it\n", "L17")
        self.found("# a dataclasses thing\n", "L17")
        self.found("x = 'a % b'\n", "L27")
        self.found("x = '\\x41'\n", "L27")

    def test_names(self):
        self.found("def f(_a):\n    return _a\n", "L12")
        self.found("def f(a):\n    return a.__class__\n", "L12")
        self.found("def f(id):\n    return id\n", "L15")
        self.found("def f(a):\n    max = a\n    return max\n", "L15")
        self.found("from emptybox.rooms import is_box\n\n\ndef f(is_box):\n    return is_box\n", "L15")
        self.found("x = 1\nx = 2\n", "L15")
        self.found("def f(a):\n    return map(f, a)\n", "L8")
        self.found("def f(a):\n    return chr(a)\n", "L8")
        self.found("def f(a):\n    return a.isdisjoint(a)\n", "L25")

    def test_imports(self):
        self.found("import math\n", "L16")
        self.found("from math import floor\n", "L2")
        self.found("from .rooms import is_box\n", "L2")
        self.found("from emptybox.rooms import is_free\n", "L16")
        self.found("from emptybox.rooms import *\n", "L16")
        self.found("x = 1\nfrom emptybox.rooms import is_box\n", "L2")
        self.found("def f():\n    from emptybox.rooms import is_box\n    return is_box\n", "L2")
        self.assertTrue(has_circle({"a": {"b"}, "b": {"c"}, "c": {"a"}}))
        self.assertFalse(has_circle({"a": {"b", "c"}, "b": {"c"}, "c": set()}))

    def test_statements(self):
        self.found("print(1)\n", "L3")
        self.found("def f():\n    global x\n    x = 1\n", "L6")
        self.found("def f(a):\n    return a / 2\n", "L6")
        self.found("def f(a):\n    return a + 1.5\n", "L7")
        self.found("@f\ndef g():\n    return 1\n", "L4")
        self.found("def f(a, /):\n    return a\n", "L4")
        self.found("def f(a, b):\n    return a is b\n", "L20")
        self.found("def f():\n    try:\n        f()\n    except Exception:\n        pass\n", "L19")

    def test_places(self):
        for right in ("sorted(k for k in a)", "any(k for k in a)", "','.join(k for k in a)", "sorted(a.items())",
                      "[k for k in zip(a, a)]", "list(reversed(range(3)))", "sorted(set(a))", "len(set(a) - set(b))",
                      "a in {b, 1, 2, 3}", "a in range(3)", "max(a, default=0)", "max(a, key=len)", "a ** 2"):
            self.assertEqual(faults_of(f"def f(a, b):\n    return {right}\n", {}), [], right)
        for wrong, rule in (("(k for k in a)", "L7"), ("f(k for k in a)", "L7"), ("zip(a, b)", "L23"),
                            ("a.items()", "L23"), ("[range(3)]", "L23"), ("f(enumerate(a))", "L23"),
                            ("set(a)", "L24"), ("[k for k in set(a)]", "L24"), ("list({k for k in a})", "L24"),
                            ("set(a) <= set(b)", "L24"), ("sorted({1, 2, 3})", "L13")):
            self.found(f"def f(a, b):\n    return {wrong}\n", rule)

    def test_calls(self):
        self.found("def f(a):\n    return int(a, base=2)\n", "L22")
        self.found("def f(a):\n    return a.split(sep='b')\n", "L25")
        self.found("def f(a):\n    raise a\n", "L19")
        self.found("def f(a):\n    return 2 ** a\n", "L27")

    def test_values(self):
        self.found("x = [k for k in (1, 2)]\n", "L3")
        self.found("x = len('ab')\n", "L3")
        self.assertEqual(faults_of("x = (1, -2, {'a': None})\n", {}), [])

        self.found("x = {'a': [1]}\n", "L15")
        self.found("x = [({},)]\n", "L15")
        self.assertEqual(faults_of("x = {'a': (1, (2, 3))}\n", {}), [])

    def test_methods_and_attributes(self):
        for texts, rule in ((["class A:\n    def b(self):\n        return 1\n", "def f(a):\n    a.b = 1\n"], "L18"),
                            (["def f(a):\n    return a.b\n"], "L18"),
                            (["class A:\n    def decode(self):\n        return 1\n"], "L26"),
                            (["def f(a):\n    a.items = 1\n"], "L26"),
                            (["class A:\n    if 1:\n        x = 1\n"], "L5")):
            faults = class_faults(texts)
            self.assertTrue(any(fault.startswith(rule + " ") for fault in faults), (texts, faults))
        right = ["class A:\n    def get(self):\n        self.index = 1\n        return self.index\n"]
        self.assertEqual(class_faults(right), [])
        self.found("class A:\n    def __init__(self):\n        return None\n", "L28")

    def test_file_names(self):
        for name in ("Rooms.py", "rooms.txt", "test_rooms.py", "len.py", "_rooms.py", "conftest.py", "a-b.py"):
            self.assertTrue(file_fault(name), name)
        for name in ("rooms.py", "__init__.py"):
            self.assertFalse(file_fault(name), name)


if __name__ == "__main__":
    unittest.main()
