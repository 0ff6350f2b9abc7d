"""The package keeps to its part of Python, as far as a walk over its files shows it."""

import ast
import builtins
import pathlib
import re
import unittest

PACKAGE = pathlib.Path(__file__).resolve().parent.parent / "toll"
FILES = sorted(PACKAGE.rglob("*.py"))

STATEMENTS = (
    ast.Assign, ast.AugAssign, ast.If, ast.While, ast.For, ast.Return, ast.Break, ast.Continue, ast.Pass, ast.Raise,
    ast.Try, ast.Expr, ast.FunctionDef, ast.ClassDef, ast.ImportFrom,
)
NO_EXPRESSIONS = (
    ast.SetComp, ast.DictComp, ast.GeneratorExp, ast.NamedExpr, ast.Starred, ast.Await, ast.Yield, ast.YieldFrom,
    ast.Div, ast.MatMult,
)
OWN_NAMES = (
    "len range enumerate zip min max sum abs sorted reversed int str bool list tuple dict set frozenset isinstance ord"
    " repr any all divmod Exception ValueError TypeError KeyError IndexError LookupError ZeroDivisionError"
    " ArithmeticError OverflowError RuntimeError NotImplementedError AttributeError StopIteration"
).split()
METHODS = (
    "append clear copy count endswith extend find get index insert isalnum isalpha isdigit islower isspace isupper"
    " items join keys ljust lower lstrip partition pop remove replace reverse rfind rjust rpartition rsplit rstrip"
    " setdefault split splitlines startswith strip update upper values zfill bit_length"
).split()
WORDS_NOWHERE = (
    "type typing typing_extensions enum Enum IntEnum StrEnum Flag IntFlag Generic Protocol ABC ABCMeta namedtuple"
    " NamedTuple TypedDict TYPE_CHECKING abstractmethod"
).split()
WALKED_AT_ONCE = ("zip", "enumerate", "reversed", "range", "items", "keys", "values")


def each(tree, *kinds):
    return [node for node in ast.walk(tree) if isinstance(node, kinds)]


def bound_in(node):
    """The names that a function binds: its params and what is given to its locals."""
    names = [arg.arg for arg in each(node, ast.arg)]
    return names + [name.id for name in each(node, ast.Name) if isinstance(name.ctx, ast.Store)]


class Language(unittest.TestCase):
    def each_file(self):
        for file in FILES:
            self.file = file.name
            text = file.read_text(encoding="utf-8")
            yield file, text, ast.parse(text)

    def hold(self, held, node, rule):
        self.assertTrue(held, (rule, self.file, getattr(node, "lineno", None)))

    def test_files(self):
        for path in PACKAGE.rglob("*"):
            if "__pycache__" not in path.parts:
                self.assertRegex(path.name, r"\A(__init__|__main__|[a-z][a-z0-9_]*)\.py\Z")
        self.assertIn(PACKAGE / "__init__.py", FILES)

    def test_signs_and_lengths(self):
        for file, text, tree in self.each_file():
            self.assertRegex(text, r"\A[ -~\n]*\Z")
            self.assertLessEqual(len(text.splitlines()), 400)
            self.assertLessEqual(max(len(line) for line in text.splitlines()), 120)
            for node in each(tree, ast.FunctionDef):
                self.hold(node.end_lineno - node.lineno < 40, node, "L10")

    def test_words_that_stand_nowhere(self):
        for file, text, tree in self.each_file():
            words = re.findall(r"\w+", text)
            for word in WORDS_NOWHERE:
                self.assertNotIn(word, words)
            for piece in ("dataclass", "overload", "contextmanager"):
                self.assertNotIn(piece, text)

    def test_imports(self):
        defined = {}
        drawn = {}
        for file, text, tree in self.each_file():
            defined["toll." + file.stem] = [
                node.name for node in tree.body if isinstance(node, (ast.FunctionDef, ast.ClassDef))
            ] + [node.targets[0].id for node in tree.body if isinstance(node, ast.Assign)]
            drawn["toll." + file.stem] = [node for node in tree.body if isinstance(node, ast.ImportFrom)]
            self.assertEqual(each(tree, ast.Import), [])
            self.assertEqual(each(tree, ast.ImportFrom), drawn["toll." + file.stem])
        for rows in drawn.values():
            for row in rows:
                self.assertEqual(row.level, 0)
                for alias in row.names:
                    self.assertIn(alias.name, defined[row.module])
        self.assertEqual(drawn["toll.__init__"], [])
        self.no_circle({name: [row.module for row in rows] for name, rows in drawn.items()})

    def no_circle(self, drawn):
        left = dict(drawn)
        while left:
            ready = [name for name in left if not any(other in left for other in left[name])]
            self.assertTrue(ready, left)
            for name in ready:
                del left[name]

    def test_the_top_of_a_file(self):
        for file, text, tree in self.each_file():
            bound = []
            for node in tree.body[1:]:
                self.hold(isinstance(node, (ast.ImportFrom, ast.FunctionDef, ast.ClassDef, ast.Assign)), node, "L3")
                if isinstance(node, ast.Assign):
                    bound.append(node.targets[0].id)
                    self.hold(not each(node.value, ast.Call, ast.Set), node, "L3")
                    self.hold(len(each(node.value, ast.List, ast.Dict)) <= 1, node, "L15")
                elif isinstance(node, ast.ImportFrom):
                    bound.extend(alias.asname or alias.name for alias in node.names)
                else:
                    bound.append(node.name)
            self.assertIsNotNone(ast.get_docstring(tree))
            self.assertEqual(len(set(bound)), len(bound))

    def test_statements(self):
        for file, text, tree in self.each_file():
            for node in each(tree, ast.stmt):
                self.hold(isinstance(node, STATEMENTS), node, "L6")
            for node in each(tree, ast.Assign):
                self.hold(len(node.targets) == 1 and not isinstance(node.targets[0], (ast.Tuple, ast.List)), node, "L6")
            for node in each(tree, ast.For, ast.While):
                self.hold(node.orelse == [], node, "L6")
            for node in each(tree, ast.Try):
                self.hold(node.finalbody == [], node, "L6")
            for node in each(tree, ast.Expr):
                self.hold(isinstance(node.value, ast.Call) or node is tree.body[0], node, "L6")

    def test_functions_and_classes(self):
        for file, text, tree in self.each_file():
            for node in each(tree, ast.FunctionDef, ast.Lambda):
                told = node.args
                self.hold(not (told.vararg or told.kwarg or told.kwonlyargs or told.posonlyargs), node, "L4")
            for node in each(tree, ast.FunctionDef, ast.ClassDef):
                self.hold(node.decorator_list == [], node, "L4")
            for node in each(tree, ast.ClassDef):
                self.hold(node in tree.body and len(node.bases) <= 1 and node.keywords == [], node, "L5")
                for part in node.body:
                    self.hold(isinstance(part, (ast.FunctionDef, ast.Pass)), part, "L5")

    def test_expressions(self):
        for file, text, tree in self.each_file():
            for node in ast.walk(tree):
                self.hold(not isinstance(node, NO_EXPRESSIONS), node, "L7")
            for node in each(tree, ast.Constant):
                self.hold(node.value is None or node.value.__class__ in (int, str, bool), node, "L7")
                if isinstance(node.value, str):
                    self.hold("%" not in node.value, node, "L27")
            for node in each(tree, ast.ListComp):
                self.hold(len(node.generators) == 1 and len(node.generators[0].ifs) <= 1, node, "L7")
            for node in each(tree, ast.FormattedValue):
                self.hold(isinstance(node.value, ast.Name) and node.format_spec is None, node, "L7")
            for node in each(tree, ast.Compare):
                for sign, beside in zip(node.ops, node.comparators):
                    if isinstance(sign, (ast.Is, ast.IsNot)):
                        self.hold(isinstance(beside, ast.Constant) and beside.value in (None, True, False), node, "L20")
            for node in each(tree, ast.BinOp):
                if isinstance(node.op, ast.Pow):
                    self.hold(isinstance(node.right, ast.Constant) and 0 <= node.right.value <= 64, node, "L27")

    def test_names(self):
        for file, text, tree in self.each_file():
            drawn = [alias.name for node in each(tree, ast.ImportFrom) for alias in node.names]
            classes = [node.name for node in each(tree, ast.ClassDef)]
            for node in each(tree, ast.FunctionDef, ast.Lambda, ast.ListComp):
                for name in bound_in(node):
                    self.hold(name not in drawn + classes and not hasattr(builtins, name), node, "L15")
            for node in each(tree, ast.Name):
                self.hold(re.fullmatch("[A-Za-z][A-Za-z0-9_]*", node.id), node, "L12")
                self.hold(not hasattr(builtins, node.id) or node.id in OWN_NAMES, node, "L8")
            for node in tree.body:
                if isinstance(node, (ast.FunctionDef, ast.ClassDef)):
                    self.hold(not hasattr(builtins, node.name), node, "L8")

    def test_methods(self):
        own = []
        for file, text, tree in self.each_file():
            for node in each(tree, ast.ClassDef):
                own.extend(part.name for part in node.body if isinstance(part, ast.FunctionDef))
        for file, text, tree in self.each_file():
            for node in each(tree, ast.Call):
                if isinstance(node.func, ast.Attribute):
                    self.hold(node.func.attr in METHODS or node.func.attr in own, node, "L25")

    def test_walked_at_once(self):
        for file, text, tree in self.each_file():
            for node in each(tree, ast.Assign, ast.Return):
                value = node.value
                if isinstance(value, ast.Call):
                    called = value.func.attr if isinstance(value.func, ast.Attribute) else value.func.id
                    self.hold(called not in WALKED_AT_ONCE, node, "L23")
            for node in each(tree, ast.Name):
                if node.id in ("set", "frozenset"):
                    self.hold(isinstance(node.ctx, ast.Load), node, "L24")

    def test_each_walk_is_on_the_spot(self):
        takers = ("list", "tuple", "dict", "sorted", "sum", "any", "all", "enumerate", "zip")
        for file, text, tree in self.each_file():
            fine = [node.iter for node in each(tree, ast.For, ast.comprehension)]
            for node in each(tree, ast.Call):
                if isinstance(node.func, ast.Name) and node.args:
                    alone = node.func.id in ("min", "max") and len(node.args) == 1
                    fine.extend(node.args[:1] if node.func.id in takers or alone else [])
                    fine.extend(node.args if node.func.id == "zip" else [])
            for node in each(tree, ast.Call):
                called = node.func.attr if isinstance(node.func, ast.Attribute) else getattr(node.func, "id", None)
                if called in WALKED_AT_ONCE:
                    self.hold(node in fine, node, "L23")

    def test_own_methods_and_values(self):
        pythons = {name for kind in (str, int, list, tuple, dict, set, bytes) for name in dir(kind)}
        methods, kept = {}, {}
        for file, text, tree in self.each_file():
            for node in each(tree, ast.ClassDef):
                names = [part.name for part in node.body if isinstance(part, ast.FunctionDef)]
                self.hold(len(set(names)) == len(names), node, "L18")
                methods.update({name: node for name in names if name != "__init__"})
            for node in each(tree, ast.Attribute):
                if isinstance(node.ctx, ast.Store):
                    kept[node.attr] = node
                    self.hold(isinstance(node.value, ast.Name), node, "L18")
        self.assertEqual(set(methods) & set(kept), set())
        self.assertEqual((set(methods) | set(kept)) & pythons, set())

    def test_errors(self):
        for file, text, tree in self.each_file():
            for node in each(tree, ast.Raise):
                self.hold(isinstance(node.exc, ast.Call), node, "L19")
            for node in each(tree, ast.ExceptHandler):
                self.hold(node.type is not None, node, "L19")
                caught = [name.id for name in each(node.type, ast.Name)]
                self.hold(not set(caught) & {"Exception", "TypeError"}, node, "L19")


if __name__ == "__main__":
    unittest.main()
