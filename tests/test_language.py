"""The package's files keep to the part of Python that they are written in."""

import ast
import builtins
import functools
import os
import re
import unittest

FOLDER = os.path.join(os.path.dirname(os.path.dirname(os.path.abspath(__file__))), "stillheap")

PYTHONS_OWN = set(
    "len range enumerate zip min max sum abs sorted reversed int str bool list tuple dict set"
    " frozenset isinstance ord repr any all divmod".split()
)
PYTHONS_ERRORS = set(
    "Exception ValueError TypeError KeyError IndexError LookupError ZeroDivisionError"
    " ArithmeticError OverflowError RuntimeError NotImplementedError AttributeError StopIteration".split()
)
METHODS = set(
    "append clear copy count endswith extend find get index insert isalnum isalpha isdigit islower"
    " isspace isupper items join keys ljust lower lstrip partition pop remove replace reverse rfind"
    " rjust rpartition rsplit rstrip setdefault split splitlines startswith strip update upper values"
    " zfill bit_length".split()
)
SPECIAL = {"__init__", "__eq__", "__repr__", "__str__", "__len__"}
OUT = re.compile(
    r"\b(type|typing|typing_extensions|enum|Enum|IntEnum|StrEnum|Flag|IntFlag|Generic|Protocol|ABC|ABCMeta"
    r"|namedtuple|NamedTuple|TypedDict|TYPE_CHECKING|abstractmethod)\b|dataclass|overload|contextmanager"
)
NAMES_OUT = {"register", "mro", "elements", "open", "input", "version_info", "with_traceback", "add_note"}
NODES = (
    ast.Module, ast.ImportFrom, ast.alias, ast.FunctionDef, ast.arguments, ast.arg, ast.ClassDef,
    ast.Assign, ast.AugAssign, ast.If, ast.While, ast.For, ast.Return, ast.Break, ast.Continue,
    ast.Pass, ast.Raise, ast.Try, ast.ExceptHandler, ast.Expr, ast.Constant, ast.List, ast.Tuple,
    ast.Dict, ast.BinOp, ast.UnaryOp, ast.BoolOp, ast.Compare, ast.IfExp, ast.Call, ast.keyword,
    ast.Attribute, ast.Subscript, ast.Slice, ast.ListComp, ast.comprehension, ast.JoinedStr,
    ast.FormattedValue, ast.Name, ast.Lambda, ast.expr_context, ast.operator, ast.unaryop,
    ast.boolop, ast.cmpop,
)
WALKED_IN = {"list", "tuple", "dict", "sorted", "sum", "any", "all", "enumerate", "zip", "min", "max"}


def files():
    return sorted(name for name in os.listdir(FOLDER) if name != "__pycache__")


def text_of(name):
    with open(os.path.join(FOLDER, name), encoding="utf-8", newline="") as file:
        return file.read()


@functools.lru_cache(maxsize=None)
def trees():
    return {name: ast.parse(text_of(name)) for name in files()}


def nodes(kind):
    for name, tree in trees().items():
        for node in ast.walk(tree):
            if isinstance(node, kind):
                yield name, node


def where(name, node):
    return f"{name}:{getattr(node, 'lineno', 0)}"


def bound_names(function):
    names = [arg.arg for arg in function.args.args]
    for node in ast.walk(function):
        if isinstance(node, ast.Name) and isinstance(node.ctx, ast.Store):
            names.append(node.id)
        if isinstance(node, ast.ExceptHandler) and node.name:
            names.append(node.name)
    return names


def top_names(tree):
    names = []
    for node in tree.body:
        if isinstance(node, (ast.FunctionDef, ast.ClassDef)):
            names.append(node.name)
        if isinstance(node, ast.Assign):
            names.append(node.targets[0].id)
        if isinstance(node, ast.ImportFrom):
            names.extend(alias.name for alias in node.names)
    return names


def is_plain(node, functions):
    if isinstance(node, ast.Constant):
        return node.value is None or isinstance(node.value, (int, str))
    if isinstance(node, (ast.List, ast.Tuple)):
        return all(is_plain(part, functions) for part in node.elts)
    if isinstance(node, ast.Dict):
        return all(is_plain(part, functions) for part in node.keys + node.values)
    return isinstance(node, ast.Name) and node.id in functions


class LanguageTest(unittest.TestCase):
    def test_files_and_signs(self):
        for name in files():
            self.assertRegex(name, r"^([a-z][a-z0-9_]*|__init__|__main__)\.py$")
            self.assertNotIn(name[:-3], dir(builtins))
            text = text_of(name)
            self.assertRegex(text, r"^[ -~\n]*\Z", name)
            self.assertTrue(text.endswith("\n"), name)
            self.assertLessEqual(text.count("\n"), 400, name)
            self.assertLessEqual(max(len(line) for line in text.split("\n")), 120, name)

    def test_words_that_stand_nowhere(self):
        for name in files():
            self.assertIsNone(OUT.search(text_of(name)), name)

    def test_kinds_of_nodes(self):
        for name, node in nodes(ast.AST):
            self.assertIsInstance(node, NODES, where(name, node))

    def test_imports(self):
        drawn = {}
        for name, tree in trees().items():
            drawn[name] = []
            rows = [node for node in ast.walk(tree) if isinstance(node, ast.ImportFrom)]
            for node in rows:
                self.assertIn(node, tree.body, where(name, node))
                self.assertRegex(node.module, r"^stillheap\.[a-z_]+$", where(name, node))
                target = node.module.split(".")[1] + ".py"
                drawn[name].append(target)
                defined = [
                    n.name if not isinstance(n, ast.Assign) else n.targets[0].id
                    for n in trees()[target].body
                    if isinstance(n, (ast.FunctionDef, ast.ClassDef, ast.Assign))
                ]
                for alias in node.names:
                    self.assertIsNone(alias.asname, where(name, node))
                    self.assertIn(alias.name, defined, where(name, node))
        for name in drawn:
            met = set(drawn[name])
            while met | {b for a in met for b in drawn[a]} != met:
                met |= {b for a in met for b in drawn[a]}
            self.assertNotIn(name, met)

    def test_tops_of_files(self):
        for name, tree in trees().items():
            self.assertIsNotNone(ast.get_docstring(tree), name)
            functions = []
            for node in tree.body[1:]:
                self.assertIsInstance(node, (ast.ImportFrom, ast.FunctionDef, ast.ClassDef, ast.Assign))
                if isinstance(node, ast.FunctionDef):
                    functions.append(node.name)
                if isinstance(node, ast.Assign):
                    self.assertTrue(is_plain(node.value, functions), where(name, node))
            names = top_names(tree)
            self.assertEqual(sorted(set(names)), sorted(names), name)

    def test_no_list_or_dict_of_a_top_is_changed(self):
        for name, tree in trees().items():
            kept = [n.targets[0].id for n in tree.body if isinstance(n, ast.Assign)]
            for node in ast.walk(tree):
                if isinstance(node, ast.Subscript) and isinstance(node.ctx, ast.Store):
                    self.assertNotIn(getattr(node.value, "id", None), kept, where(name, node))
                if isinstance(node, ast.Attribute) and getattr(node.value, "id", None) in kept:
                    self.assertEqual(node.attr, "get", where(name, node))

    def test_functions(self):
        for name, node in nodes(ast.FunctionDef):
            self.assertLessEqual(node.end_lineno - node.lineno + 1, 40, where(name, node))
            self.assertEqual(node.decorator_list, [])
            args = node.args
            self.assertFalse(args.vararg or args.kwarg or args.kwonlyargs or args.posonlyargs)
            self.assertIsNone(node.returns)
            self.assertEqual([arg.annotation for arg in args.args if arg.annotation], [])

    def test_names(self):
        for name, tree in trees().items():
            imports = [a.name for n in tree.body if isinstance(n, ast.ImportFrom) for a in n.names]
            classes = [n.name for n in tree.body if isinstance(n, ast.ClassDef)]
            for node in ast.walk(tree):
                if isinstance(node, ast.FunctionDef):
                    for bound in bound_names(node):
                        self.assertNotIn(bound, imports + classes, where(name, node))
                        self.assertNotIn(bound, dir(builtins), where(name, node))
                        self.assertRegex(bound, r"^[A-Za-z][A-Za-z0-9_]*$", where(name, node))
                    if node.name not in SPECIAL:
                        self.assertRegex(node.name, r"^[a-z][a-z0-9_]*$", where(name, node))

    def test_names_that_are_not_used(self):
        for name, node in nodes((ast.Name, ast.Attribute, ast.FunctionDef, ast.ClassDef, ast.arg)):
            for part in ("id", "attr", "name", "arg"):
                self.assertNotIn(getattr(node, part, None), NAMES_OUT, where(name, node))

    def test_pythons_own_names(self):
        for name, tree in trees().items():
            known = set(top_names(tree)) | PYTHONS_OWN | PYTHONS_ERRORS
            for function in ast.walk(tree):
                if isinstance(function, ast.FunctionDef):
                    known |= set(bound_names(function))
            for node in ast.walk(tree):
                if isinstance(node, ast.Name):
                    self.assertIn(node.id, known, where(name, node))

    def test_classes(self):
        methods = set()
        given = set()
        for name, node in nodes(ast.ClassDef):
            self.assertLessEqual(len(node.bases), 1)
            self.assertEqual(node.keywords + node.decorator_list, [])
            found = []
            for part in node.body:
                self.assertIsInstance(part, ast.FunctionDef, where(name, part))
                found.append(part.name)
            self.assertEqual(len(found), len(set(found)), where(name, node))
            methods |= set(found)
        for name, node in nodes(ast.Attribute):
            if isinstance(node.ctx, ast.Store):
                self.assertIsInstance(node.value, ast.Name, where(name, node))
                given.add(node.attr)
            elif node.attr.startswith("_"):
                self.assertEqual(node.attr, "__init__", where(name, node))
        self.assertEqual(methods & given, set())
        own = set(dir(str) + dir(int) + dir(list) + dir(dict) + dir(set) + dir(bytes))
        self.assertEqual((methods - SPECIAL) & own - METHODS - {"add", "discard"}, set())
        self.assertEqual(given & own, set())
        for name, node in nodes(ast.Attribute):
            self.assertIn(node.attr, methods | given | METHODS | SPECIAL, where(name, node))

    def test_methods_are_called_where_they_stand(self):
        for name, tree in trees().items():
            called = {id(node.func) for node in ast.walk(tree) if isinstance(node, ast.Call)}
            for node in ast.walk(tree):
                if isinstance(node, ast.Attribute) and node.attr in METHODS:
                    self.assertIn(id(node), called, where(name, node))

    def test_statements(self):
        for name, node in nodes((ast.Assign, ast.For, ast.While, ast.Try, ast.Expr)):
            if isinstance(node, ast.Assign):
                self.assertEqual(len(node.targets), 1, where(name, node))
            if isinstance(node, (ast.For, ast.While)):
                self.assertEqual(node.orelse, [], where(name, node))
            if isinstance(node, ast.Try):
                self.assertEqual(node.finalbody, [], where(name, node))
                for handler in node.handlers:
                    self.assertIsInstance(handler.type, ast.Name, where(name, node))
                    self.assertNotIn(handler.type.id, ("Exception", "TypeError"))
            if isinstance(node, ast.Expr) and node is not trees()[name].body[0]:
                is_docstring = node.lineno == 1
                self.assertTrue(is_docstring or isinstance(node.value, ast.Call), where(name, node))

    def test_errors_are_made_where_they_are_raised(self):
        errors = {node.name for node in trees()["errors.py"].body if isinstance(node, ast.ClassDef)}
        for name, node in nodes(ast.Raise):
            self.assertIsInstance(node.exc, ast.Call, where(name, node))
            self.assertIn(getattr(node.exc.func, "id", None), errors, where(name, node))
        for name, node in nodes(ast.ExceptHandler):
            self.assertIn(node.type.id, errors, where(name, node))

    def test_values(self):
        for name, node in nodes((ast.Constant, ast.BinOp, ast.ListComp, ast.FormattedValue)):
            if isinstance(node, ast.Constant):
                self.assertNotIsInstance(node.value, (float, bytes, complex), where(name, node))
                self.assertFalse(isinstance(node.value, str) and "%" in node.value, where(name, node))
            if isinstance(node, ast.BinOp):
                self.assertNotIsInstance(node.op, (ast.Div, ast.MatMult), where(name, node))
                if isinstance(node.op, ast.Pow):
                    self.assertIsInstance(node.right, ast.Constant, where(name, node))
                    self.assertLessEqual(node.right.value, 64, where(name, node))
            if isinstance(node, ast.ListComp):
                self.assertEqual(len(node.generators), 1, where(name, node))
                self.assertLessEqual(len(node.generators[0].ifs), 1, where(name, node))
            if isinstance(node, ast.FormattedValue):
                self.assertIsInstance(node.value, ast.Name, where(name, node))
                self.assertIsNone(node.format_spec, where(name, node))

    def test_is_stands_beside_none_true_false(self):
        for name, node in nodes(ast.Compare):
            for op, right in zip(node.ops, node.comparators):
                if isinstance(op, (ast.Is, ast.IsNot)):
                    self.assertIsInstance(right, ast.Constant, where(name, node))

    def test_walks_are_walked_at_once(self):
        for name, tree in trees().items():
            fine = set()
            for node in ast.walk(tree):
                if isinstance(node, (ast.For, ast.comprehension)):
                    fine.add(id(node.iter))
                if isinstance(node, ast.Call) and getattr(node.func, "id", None) in WALKED_IN:
                    fine |= {id(arg) for arg in node.args}
            for node in ast.walk(tree):
                if isinstance(node, ast.Call):
                    called = getattr(node.func, "id", None) or getattr(node.func, "attr", None)
                    if called in ("zip", "enumerate", "reversed", "range", "items", "keys", "values"):
                        self.assertIn(id(node), fine, where(name, node))
                    self.assertNotIn(called, ("set", "frozenset", "chr"), where(name, node))

    def test_what_a_loop_walks_is_not_changed_in_it(self):
        changes = ("append", "clear", "extend", "insert", "pop", "remove", "reverse", "setdefault", "update")
        for name, node in nodes(ast.For):
            walked = ast.unparse(node.iter)
            for part in node.body:
                for inner in ast.walk(part):
                    changed = None
                    if isinstance(inner, ast.Call) and getattr(inner.func, "attr", None) in changes:
                        changed = ast.unparse(inner.func.value)
                    if isinstance(inner, ast.Subscript) and isinstance(inner.ctx, ast.Store):
                        changed = ast.unparse(inner.value)
                    self.assertNotEqual(changed, walked, where(name, inner))


if __name__ == "__main__":
    unittest.main()
