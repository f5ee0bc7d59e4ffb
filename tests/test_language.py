"""Holds the package's own files to the more plainly seen rules of form; it doesn't see all of them."""

import ast
import builtins
import pathlib
import re
import unittest

PACKAGE = pathlib.Path(__file__).resolve().parent.parent / "evenmix"

STATEMENTS = (
    ast.Assign, ast.AugAssign, ast.If, ast.While, ast.For, ast.Return, ast.Break, ast.Continue, ast.Pass,
    ast.Raise, ast.Try, ast.Expr, ast.FunctionDef, ast.ClassDef, ast.ImportFrom,
)
EXPRESSIONS = (
    ast.Constant, ast.Name, ast.List, ast.Tuple, ast.Dict, ast.Set, ast.BinOp, ast.UnaryOp, ast.BoolOp,
    ast.Compare, ast.IfExp, ast.Call, ast.Attribute, ast.Subscript, ast.Slice, ast.ListComp, ast.Lambda,
    ast.JoinedStr, ast.FormattedValue,
)
PYTHONS_OWN = (
    "len range enumerate zip min max sum abs sorted reversed int str bool list tuple dict set frozenset "
    "isinstance ord repr any all divmod Exception ValueError TypeError KeyError IndexError LookupError "
    "ZeroDivisionError ArithmeticError OverflowError RuntimeError NotImplementedError AttributeError "
    "StopIteration"
).split()
METHODS = (
    "append clear copy count endswith extend find get index insert isalnum isalpha isdigit islower isspace "
    "isupper items join keys ljust lower lstrip partition pop remove replace reverse rfind rjust rpartition "
    "rsplit rstrip setdefault split splitlines startswith strip update upper values zfill bit_length"
).split()
CHANGES = ("append", "clear", "extend", "insert", "pop", "remove", "reverse", "setdefault", "update")
WALKED = ("zip", "enumerate", "reversed", "range")
WALKED_METHODS = ("items", "keys", "values")
WALKERS = ("list", "tuple", "dict", "sorted", "sum", "any", "all", "enumerate", "zip")
KEYWORDS = {"sorted": ("key", "reverse"), "min": ("key", "default"), "max": ("key", "default"), "sum": ("start",),
            "enumerate": ("start",), "zip": ("strict",)}
OWN_DOUBLE = ("__init__", "__eq__", "__repr__", "__str__", "__len__")
WORDS = (
    r"\b(type|typing|typing_extensions|enum|Enum|IntEnum|StrEnum|Flag|IntFlag|Generic|Protocol|ABC|ABCMeta"
    r"|namedtuple|NamedTuple|TypedDict|TYPE_CHECKING|abstractmethod)\b|dataclass|overload|contextmanager"
)


def text_faults(text):
    if re.search(r"[^ -~\n]", text):
        yield "L14: a sign out of the plain ones"
    if re.search(WORDS, text):
        yield "L17: a word that stands nowhere"
    if len(text.splitlines()) > 400:
        yield "L10: a file of more than 400 lines"
    if any(len(line) > 120 for line in text.splitlines()):
        yield "L10: a line of more than 120 signs"


def def_faults(node):
    more = node.args
    if more.vararg or more.kwarg or more.kwonlyargs or more.posonlyargs or node.decorator_list:
        yield "L4: a parameter or a decorator"
    if node.end_lineno - node.lineno >= 40:
        yield "L10: a function of more than 40 lines"
    if node.name.startswith("_") and node.name not in OWN_DOUBLE:
        yield "L12: a name with an underscore ahead"
    if any(arg.arg.startswith("_") or hasattr(builtins, arg.arg) for arg in more.args):
        yield "L15: a parameter like a name of Python's own"


def class_faults(node):
    if node.decorator_list or node.keywords or len(node.bases) > 1:
        yield "L5: no plain class"
    if not all(isinstance(part, (ast.FunctionDef, ast.Pass)) for part in node.body):
        yield "L5: a value in a class"


def is_words(node):
    return isinstance(node, ast.Expr) and isinstance(node.value, ast.Constant) and isinstance(node.value.value, str)


def name_faults(node):
    own = hasattr(builtins, node.id)
    if own and (not isinstance(node.ctx, ast.Load) or node.id not in PYTHONS_OWN):
        yield f"L8: {node.id}"
    if node.id.startswith("_"):
        yield f"L12: {node.id}"


def expression_faults(node, defined):
    if isinstance(node, ast.Name):
        yield from name_faults(node)
    if isinstance(node, ast.Constant) and not isinstance(node.value, (int, str, type(None))):
        yield "L7: a value that is none of the plain ones"
    if isinstance(node, ast.ListComp) and (len(node.generators) > 1 or len(node.generators[0].ifs) > 1):
        yield "L7: more than one for or if"
    if isinstance(node, ast.BinOp) and isinstance(node.op, (ast.Div, ast.MatMult)):
        yield "L7: /"
    if isinstance(node, ast.Compare) and any(isinstance(op, (ast.Is, ast.IsNot)) for op in node.ops):
        if not isinstance(node.comparators[-1], ast.Constant):
            yield "L20: is"
    if isinstance(node, ast.Call) and isinstance(node.func, ast.Attribute):
        if node.func.attr not in METHODS and node.func.attr not in defined:
            yield f"L25: {node.func.attr}"


def node_faults(node, defined):
    if isinstance(node, ast.stmt) and not isinstance(node, STATEMENTS):
        yield f"L6: {type(node).__name__}"
    if isinstance(node, ast.expr) and not isinstance(node, EXPRESSIONS):
        yield f"L7: {type(node).__name__}"
    if isinstance(node, (ast.For, ast.While)) and node.orelse:
        yield "L6: else behind a loop"
    if isinstance(node, ast.Assign) and len(node.targets) > 1:
        yield "L6: two targets"
    if isinstance(node, ast.Expr) and not isinstance(node.value, ast.Call):
        yield "L6: a value by itself"
    if isinstance(node, ast.Try) and node.finalbody:
        yield "L6: finally"
    if isinstance(node, ast.ImportFrom) and (node.level or not node.module.startswith("evenmix.")):
        yield "L2: an import from elsewhere"
    if isinstance(node, ast.FunctionDef):
        yield from def_faults(node)
    if isinstance(node, ast.ClassDef):
        yield from class_faults(node)
    if isinstance(node, ast.expr):
        yield from expression_faults(node, defined)


def called_name(node):
    return node.func.id if isinstance(node, ast.Call) and isinstance(node.func, ast.Name) else None


def bound_names(tree):
    for node in ast.walk(tree):
        if isinstance(node, ast.arg):
            yield node.arg
        if isinstance(node, ast.Name) and not isinstance(node.ctx, ast.Load):
            yield node.id


def binding_faults(tree):
    taken = [alias.name for node in tree.body if isinstance(node, ast.ImportFrom) for alias in node.names]
    taken = taken + [node.name for node in tree.body if isinstance(node, ast.ClassDef)]
    for name in bound_names(tree):
        if name in taken:
            yield f"L15: {name} is an import or a class"


def is_kept(node, parent):
    """Whether what is to be walked at once is not."""
    if isinstance(parent, (ast.For, ast.comprehension)):
        return parent.iter is not node
    walker = called_name(parent)
    if walker in ("min", "max"):
        return len(parent.args) > 1
    if walker in WALKERS:
        return walker != "zip" and parent.args[0] is not node
    return not (isinstance(parent, ast.Call) and isinstance(parent.func, ast.Attribute) and parent.func.attr == "join")


def call_faults(tree):
    for parent in ast.walk(tree):
        for node in ast.iter_child_nodes(parent):
            if not isinstance(node, ast.Call):
                continue
            name = called_name(node)
            method = node.func.attr if isinstance(node.func, ast.Attribute) else None
            if (name in WALKED or method in WALKED_METHODS) and is_kept(node, parent):
                yield f"line {node.lineno}: L23: {name or method} is kept"
            for keyword in node.keywords:
                if hasattr(builtins, name or "") and keyword.arg not in KEYWORDS.get(name, ()):
                    yield f"line {node.lineno}: L22: the keyword {keyword.arg}"


def walked_names(node):
    if isinstance(node, ast.Name):
        return [node.id]
    if isinstance(node, ast.Call) and called_name(node) in ("enumerate", "zip", "reversed"):
        return [name for part in node.args for name in walked_names(part)]
    if isinstance(node, ast.Call) and isinstance(node.func, ast.Attribute) and node.func.attr in WALKED_METHODS:
        return walked_names(node.func.value)
    return []


def changed_names(node):
    for part in ast.walk(node):
        if isinstance(part, ast.Subscript) and not isinstance(part.ctx, ast.Load):
            yield getattr(part.value, "id", None)
        if isinstance(part, ast.Call) and isinstance(part.func, ast.Attribute) and part.func.attr in CHANGES:
            yield getattr(part.func.value, "id", None)


def loop_faults(tree):
    for node in ast.walk(tree):
        if isinstance(node, ast.For):
            changed = [name for part in node.body for name in changed_names(part)]
            if set(changed) & set(walked_names(node.iter)):
                yield f"line {node.lineno}: L23: what the loop walks is changed in it"


def faults_of(text):
    faults = list(text_faults(text))
    tree = ast.parse(text)
    faults = faults + list(binding_faults(tree)) + list(call_faults(tree)) + list(loop_faults(tree))
    defined = [node.name for node in ast.walk(tree) if isinstance(node, ast.FunctionDef)]
    # Words by themselves stand at the top of a file alone.
    if tree.body and is_words(tree.body[0]):
        tree.body.pop(0)
    for node in ast.walk(tree):
        faults.extend(f"line {getattr(node, 'lineno', 0)}: {fault}" for fault in node_faults(node, defined))
    return faults


def members_of(text):
    """The names of all methods, and of all values that objects are given."""
    methods, values = [], []
    for node in ast.walk(ast.parse(text)):
        if isinstance(node, ast.ClassDef):
            methods.extend(part.name for part in node.body if isinstance(part, ast.FunctionDef))
        if isinstance(node, ast.Attribute) and not isinstance(node.ctx, ast.Load):
            values.append(node.attr)
    return methods, values


def member_faults(texts):
    methods = [name for text in texts for name in members_of(text)[0]]
    values = [name for text in texts for name in members_of(text)[1]]
    for name in sorted(set(methods) & set(values)):
        yield f"L18: {name} is a method here and a value there"
    for name in sorted(set(methods + values) - set(OWN_DOUBLE)):
        # Some few of Python's own are let in as well; the package has no need of them.
        if any(hasattr(kind, name) for kind in (str, int, list, tuple, dict, set, bytes, ValueError)):
            yield f"L26: {name} is a name of Python's own"


def drawn_from(text):
    return [node.module for node in ast.walk(ast.parse(text)) if isinstance(node, ast.ImportFrom)]


class Language(unittest.TestCase):
    def test_files(self):
        names = sorted(path.name for path in PACKAGE.iterdir() if path.name != "__pycache__")
        self.assertIn("__init__.py", names)
        for name in names:
            self.assertRegex(name, r"^(__init__|[a-z][a-z0-9_]*)\.py$")
            self.assertFalse(name != "__init__.py" and hasattr(builtins, name[:-3]), name)

    def test_each_file_keeps_to_the_rules(self):
        for path in sorted(PACKAGE.glob("*.py")):
            self.assertEqual(faults_of(path.read_text("ascii")), [], path.name)

    def test_methods_and_values(self):
        self.assertEqual(list(member_faults([path.read_text("ascii") for path in PACKAGE.glob("*.py")])), [])
        one = "class A:\n    def f(self):\n        self.g = 1\n"
        self.assertEqual(list(member_faults([one, one])), [])
        for other in (one.replace("def f", "def g"), "def h(x):\n    x.f = 1", "def h(x):\n    x.real = 1",
                      "class B:\n    def sort(self):\n        pass"):
            self.assertTrue(list(member_faults([one, other])), other)

    def test_no_two_files_draw_from_one_another(self):
        left = {"evenmix." + path.stem: drawn_from(path.read_text("ascii")) for path in PACKAGE.glob("*.py")}
        while left:
            free = [name for name in left if not any(drawn in left for drawn in left[name])]
            self.assertTrue(free, f"a ring among {sorted(left)}")
            for name in free:
                del left[name]

    def test_what_breaks_a_rule_is_seen(self):
        for text in ("import os", "from .errors import NoTable", "x = 1 / 2", "x = 1.5", "x = y = 1", "del x",
                     "x = {k: k for k in y}", "x = [a for b in c for a in b]", "x = a is b", "x = getattr(a, b)",
                     "def f(*a):\n    pass", "def f(list):\n    pass", "class A:\n    x = 1", "x.sort()",
                     "_x = 1", "for x in y:\n    pass\nelse:\n    pass", "# a type", "x = 1  # \u00e9",
                     "def f():\n" + "    x = 1\n" * 40, "x = " + "1" * 120, "(x := 1)", "x = sum(k for k in y)",
                     "sum = 1", "@f\ndef g():\n    pass", "x", "assert x",
                     "def f():\n    'words'\n    return 1", "class A:\n    'words'",
                     "from evenmix.rows import falling\ndef f(falling):\n    pass", "x = range(3)",
                     "def f(d):\n    return d.keys()", "x = y in range(3)", "x = sorted(y, cmp=z)",
                     "def f(x):\n    for y in x:\n        x.append(y)",
                     "def f(x):\n    for k, y in enumerate(x):\n        x[k] = 1"):
            self.assertTrue(faults_of(text), text)


if __name__ == "__main__":
    unittest.main()
