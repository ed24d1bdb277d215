"""The package keeps to the part of Python that the language rules (L1 to L28) tell, as far as a walk of its text shows."""

import ast
import builtins
import pathlib
import re
import unittest

PACKAGE = pathlib.Path(__file__).resolve().parent.parent / "daysgate"

ERRORS = """Exception ValueError TypeError KeyError IndexError LookupError ZeroDivisionError ArithmeticError
OverflowError RuntimeError NotImplementedError AttributeError StopIteration""".split()
CALLED = """len range enumerate zip min max sum abs sorted reversed int str bool list tuple dict set frozenset isinstance
ord repr any all divmod""".split()
METHODS = """append clear copy count endswith extend find get index insert isalnum isalpha isdigit islower isspace isupper
items join keys ljust lower lstrip partition pop remove replace reverse rfind rjust rpartition rsplit rstrip setdefault
split splitlines startswith strip update upper values zfill bit_length""".split()
SPECIAL = ["__init__", "__eq__", "__repr__", "__str__", "__len__"]
NO_WORDS = """type typing typing_extensions enum Enum IntEnum StrEnum Flag IntFlag Generic Protocol ABC ABCMeta namedtuple
NamedTuple TypedDict TYPE_CHECKING abstractmethod""".split()
NO_NAMES = """register mro elements open input version_info with_traceback add_note attrgetter breakpoint builtins compile
copyright credits delattr dir eval exec exit gc getattr globals hasattr help id importlib license locals methodcaller os
quit setattr super type vars sys format format_map""".split()
NO_FILES = ["test", "tests", "testing", "site", "conftest", "sitecustomize", "usercustomize"] + dir(builtins) + NO_WORDS

TOP = (ast.Expr, ast.ImportFrom, ast.FunctionDef, ast.ClassDef, ast.Assign)
NODES = TOP + (
    ast.Module, ast.arguments, ast.arg, ast.AugAssign, ast.If, ast.While, ast.For, ast.Return, ast.Break, ast.Continue,
    ast.Pass, ast.Raise, ast.Try, ast.ExceptHandler, ast.alias, ast.Constant, ast.Name, ast.List, ast.Tuple, ast.Dict,
    ast.BinOp, ast.UnaryOp, ast.BoolOp, ast.Compare, ast.IfExp, ast.Call, ast.keyword, ast.Attribute, ast.Subscript,
    ast.Slice, ast.ListComp, ast.comprehension, ast.JoinedStr, ast.FormattedValue, ast.Lambda, ast.expr_context,
    ast.operator, ast.unaryop, ast.boolop, ast.cmpop,
)


def faults_of_text(text):
    if re.search(r"[^ -~\n]", text):
        yield "L14 a sign that is none"
    rows = text.split("\n")
    if len(rows) > 400 or any(len(row) > 120 for row in rows):
        yield "L10 too many rows, or a row too long"
    for word in re.findall(r"\w+", text):
        if word in NO_WORDS or re.search("dataclass|overload|contextmanager", word):
            yield f"L17 {word}"


def faults_of_def(node):
    if node.decorator_list:
        yield "L4 a decorator"
    if node.end_lineno - node.lineno + 1 > 40:
        yield "L10 a function too long"
    given = node.args
    if given.vararg or given.kwarg or given.kwonlyargs or given.posonlyargs:
        yield "L4 other than plain parameters"
    if node.returns or any(arg.annotation for arg in given.args):
        yield "L21 an annotation"
    if node.name == "__init__" and any(isinstance(part, ast.Return) and part.value for part in ast.walk(node)):
        yield "L28 a value given back"


def faults_of_class(node):
    if node.decorator_list or node.keywords or len(node.bases) > 1:
        yield "L5 a decorator or several bases"
    for place, part in enumerate(node.body):
        told = place == 0 and isinstance(part, ast.Expr) and isinstance(part.value, ast.Constant)
        if not told and not isinstance(part, (ast.FunctionDef, ast.Pass)):
            yield "L5 a value in the body"
    names = [part.name for part in node.body if isinstance(part, ast.FunctionDef)]
    if len(set(names)) != len(names):
        yield "L18 a method twice"


def faults_of_value(node):
    if isinstance(node, ast.Constant):
        if not isinstance(node.value, (int, str, bool, type(None))):
            yield "L7 a value of another kind"
        if isinstance(node.value, str) and "%" in node.value:
            yield "L27 the sign of parts in a text"
    if isinstance(node, ast.FormattedValue):
        if not isinstance(node.value, ast.Name) or node.format_spec or node.conversion not in (-1, ord("r")):
            yield "L7 more than a name in braces"
    if isinstance(node, ast.BinOp) and isinstance(node.op, (ast.Div, ast.MatMult)):
        yield "L7 no such sum"
    if isinstance(node, ast.BinOp) and isinstance(node.op, ast.Pow) and not isinstance(node.right, ast.Constant):
        yield "L27 an exponent that is not written"
    if isinstance(node, ast.ListComp) and (len(node.generators) > 1 or len(node.generators[0].ifs) > 1):
        yield "L7 more than one for or if"
    if isinstance(node, ast.Compare):
        for sign, right in zip(node.ops, node.comparators):
            written = isinstance(right, ast.Constant) and right.value in (None, True, False)
            if isinstance(sign, (ast.Is, ast.IsNot)) and not written:
                yield "L20 is"


def faults_of_step(node):
    if isinstance(node, ast.Assign) and len(node.targets) > 1:
        yield "L6 more than one target"
    if isinstance(node, (ast.For, ast.While)) and node.orelse:
        yield "L6 else behind a loop"
    if isinstance(node, ast.Try) and node.finalbody:
        yield "L6 finally"
    if isinstance(node, ast.ExceptHandler):
        if not isinstance(node.type, ast.Name) or node.type.id in ("Exception", "TypeError"):
            yield "L19 except"
    if isinstance(node, ast.Raise) and not isinstance(node.exc, ast.Call):
        yield "L19 an error not made on the spot"
    if isinstance(node, ast.Expr) and not isinstance(node.value, (ast.Call, ast.Constant)):
        yield "L6 a value by itself"


def is_call(node, names):
    return isinstance(node, ast.Call) and isinstance(node.func, ast.Name) and node.func.id in names


def is_method_call(node, names):
    return isinstance(node, ast.Call) and isinstance(node.func, ast.Attribute) and node.func.attr in names


def is_walked(node, parent):
    if isinstance(parent, (ast.For, ast.comprehension)):
        return node is parent.iter
    if is_call(parent, ["list", "tuple", "dict", "sorted", "sum", "any", "all", "enumerate", "zip"]):
        return node is parent.args[0] or is_call(parent, ["zip"])
    if is_call(parent, ["min", "max"]):
        return len(parent.args) == 1
    return is_method_call(parent, ["join"]) and isinstance(parent.func.value, ast.Constant)


def faults_of_walks(tree):
    parents = {child: node for node in ast.walk(tree) for child in ast.iter_child_nodes(node)}
    for node, parent in parents.items():
        if is_call(node, ["zip", "enumerate", "reversed", "range"]) or is_method_call(node, ["items", "keys", "values"]):
            if not is_walked(node, parent):
                yield "L23 not walked on the spot"
        if is_call(node, ["set", "frozenset"]) or isinstance(node, ast.Set):
            while isinstance(parent, ast.BinOp):
                parent = parents[parent]
            if not isinstance(parent, ast.Compare) and not is_call(parent, ["sorted", "len"]):
                yield "L24 a set that is kept or walked"
        if isinstance(node, ast.For):
            for part in ast.walk(node):
                changes = is_method_call(part, ["append", "clear", "extend", "insert", "pop", "remove", "reverse"])
                if changes and ast.dump(part.func.value) == ast.dump(node.iter):
                    yield "L23 what is walked is changed"


class Whole:
    """All files of the package, read."""

    def __init__(self):
        self.texts = {path.stem: path.read_text(encoding="utf-8") for path in sorted(PACKAGE.glob("*.py"))}
        self.trees = {stem: ast.parse(text) for stem, text in self.texts.items()}
        nodes = [node for tree in self.trees.values() for node in ast.walk(tree)]
        classes = [node for node in nodes if isinstance(node, ast.ClassDef)]
        self.methods = {part.name for kind in classes for part in kind.body if isinstance(part, ast.FunctionDef)}
        self.values = {node.attr for node in nodes if isinstance(node, ast.Attribute) and isinstance(node.ctx, ast.Store)}

    def bound_at_top(self, stem):
        found = []
        for node in self.trees[stem].body:
            if isinstance(node, (ast.FunctionDef, ast.ClassDef)):
                found.append(node.name)
            elif isinstance(node, ast.Assign):
                found.append(node.targets[0].id)
        return found

    def imported(self, stem):
        return [node for node in self.trees[stem].body if isinstance(node, ast.ImportFrom)]

    def drawn(self, stem):
        found = set()
        waiting = [stem]
        while waiting:
            for node in self.imported(waiting.pop()):
                other = node.module.rpartition(".")[2]
                if other not in found:
                    found.add(other)
                    waiting.append(other)
        return found

    def faults_of_imports(self, stem):
        for node in self.imported(stem):
            other = node.module.rpartition(".")[2]
            if node.level or node.module != f"daysgate.{other}" or other not in self.trees:
                yield "L2 not the package's own"
                continue
            for alias in node.names:
                if alias.asname or alias.name not in self.bound_at_top(other):
                    yield f"L16 {alias.name} is not defined there"
        if stem in self.drawn(stem):
            yield "L16 files that draw from one another"

    def faults_of_names(self, stem):
        tree = self.trees[stem]
        top = self.bound_at_top(stem)
        drawn = [alias.name for node in self.imported(stem) for alias in node.names]
        kinds = [node.name for node in tree.body if isinstance(node, ast.ClassDef)]
        if len(set(top + drawn)) != len(top + drawn):
            yield "L15 a name bound twice at the top"
        stored = {node.arg for node in ast.walk(tree) if isinstance(node, ast.arg)}
        stored |= {node.id for node in ast.walk(tree) if isinstance(node, ast.Name) and isinstance(node.ctx, ast.Store)}
        for name in sorted(stored):
            if name in drawn or name in kinds or name in dir(builtins):
                yield f"L15 {name} has another meaning"
        known = stored | set(top) | set(drawn) | set(CALLED) | set(ERRORS)
        for node in ast.walk(tree):
            if isinstance(node, ast.Name) and node.id not in known:
                yield f"L8 {node.id}"
            for name in [getattr(node, field, None) for field in ("id", "attr", "arg", "name")]:
                if isinstance(name, str) and name not in SPECIAL:
                    if name in NO_NAMES or not re.fullmatch("[A-Za-z][A-Za-z0-9_]*", name):
                        yield f"L12, L17 {name}"

    def faults_of_methods(self, stem):
        for node in ast.walk(self.trees[stem]):
            if isinstance(node, ast.Attribute):
                if node.attr not in self.methods | self.values | set(METHODS) | set(SPECIAL):
                    yield f"L25 {node.attr}"
            if isinstance(node, ast.Call) and isinstance(node.func, ast.Name) and node.func.id in CALLED:
                if {word.arg for word in node.keywords} - {"key", "reverse", "default", "start", "strict"}:
                    yield f"L22 {node.func.id}"

    def faults_of_nodes(self, stem):
        for node in self.trees[stem].body:
            if not isinstance(node, TOP):
                yield "L3 the top of a module"
        for node in ast.walk(self.trees[stem]):
            if not isinstance(node, NODES):
                yield f"L6, L7 {ast.dump(node)}"
            if isinstance(node, ast.FunctionDef):
                yield from faults_of_def(node)
            if isinstance(node, ast.ClassDef):
                yield from faults_of_class(node)
            yield from faults_of_value(node)
            yield from faults_of_step(node)
        yield from faults_of_walks(self.trees[stem])


class Language(unittest.TestCase):
    def setUp(self):
        self.whole = Whole()

    def test_files(self):
        self.assertIn("__init__", self.whole.trees)
        for path in PACKAGE.iterdir():
            with self.subTest(path=path.name):
                if path.name != "__pycache__":
                    self.assertRegex(path.name, r"\A([a-z][a-z0-9_]*|__init__|__main__)\.py\Z")
                    self.assertNotIn(path.stem, NO_FILES)
                    self.assertFalse(path.name.startswith("test_"))

    def test_each_file(self):
        for stem, text in self.whole.texts.items():
            found = list(faults_of_text(text))
            found += self.whole.faults_of_imports(stem)
            found += self.whole.faults_of_names(stem)
            found += self.whole.faults_of_methods(stem)
            found += self.whole.faults_of_nodes(stem)
            self.assertEqual(found, [], stem)

    def test_no_name_is_a_method_and_a_value(self):
        self.assertEqual(self.whole.methods & self.whole.values, set())


if __name__ == "__main__":
    unittest.main()
