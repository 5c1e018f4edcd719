"""The form of the package's own files, as far as it can be seen by a walk through them."""

import ast
import builtins
import pathlib
import re
import unittest

PACKAGE = pathlib.Path(__file__).resolve().parent.parent / "regattawater"
FILES = sorted(PACKAGE.rglob("*.py"))

OWN_NAMES = set(
    "len range enumerate zip min max sum abs sorted reversed int str bool list tuple dict set frozenset isinstance ord "
    "repr any all divmod Exception ValueError TypeError KeyError IndexError LookupError ZeroDivisionError "
    "ArithmeticError OverflowError RuntimeError NotImplementedError AttributeError StopIteration".split()
)
METHODS = set(
    "append clear copy count endswith extend find get index insert isalnum isalpha isdigit islower isspace isupper "
    "items join keys ljust lower lstrip partition pop remove replace reverse rfind rjust rpartition rsplit rstrip "
    "setdefault split splitlines startswith strip update upper values zfill bit_length".split()
)
PYTHONS_ATTRIBUTES = set().union(*[dir(kind) for kind in (str, int, list, dict, set, tuple, bytes)])
VALUES_ALLOWED = set("count index title find get join lower upper split strip copy add".split())
NEVER_NAMES = set(
    "register mro elements open input version_info with_traceback add_note attrgetter breakpoint builtins compile "
    "copyright credits delattr dir eval exec exit gc getattr globals hasattr help id importlib license locals "
    "methodcaller os quit setattr super type vars sys __name__".split()
)
NEVER_WORDS = re.compile(
    r"\b(type|typing|typing_extensions|enum|Enum|IntEnum|StrEnum|Flag|IntFlag|Generic|Protocol|ABC|ABCMeta|namedtuple"
    r"|NamedTuple|TypedDict|TYPE_CHECKING|abstractmethod)\b|dataclass|overload|contextmanager"
)
STATEMENTS = (
    ast.FunctionDef, ast.ClassDef, ast.Assign, ast.AugAssign, ast.If, ast.While, ast.For, ast.Return, ast.Break,
    ast.Continue, ast.Pass, ast.Raise, ast.Try, ast.Expr, ast.ImportFrom,
)
EXPRESSIONS = (
    ast.Constant, ast.List, ast.Tuple, ast.Dict, ast.BinOp, ast.UnaryOp, ast.Compare, ast.BoolOp, ast.IfExp, ast.Call,
    ast.Attribute, ast.Subscript, ast.Slice, ast.ListComp, ast.JoinedStr, ast.FormattedValue, ast.Name, ast.Lambda,
)
WALKED_ON_THE_SPOT = ("zip", "enumerate", "reversed", "range", "items", "keys", "values")
WALKERS = ("list", "tuple", "dict", "sorted", "sum", "any", "all", "enumerate", "zip", "min", "max")


def called(node):
    if isinstance(node, ast.Call):
        return node.func.id if isinstance(node.func, ast.Name) else getattr(node.func, "attr", None)
    return None


def is_docstring(node):
    return isinstance(node, ast.Expr) and isinstance(node.value, ast.Constant) and isinstance(node.value.value, str)


class EachFile(unittest.TestCase):
    def each(self):
        for path in FILES:
            source = path.read_text(encoding="ascii")
            yield path, source, ast.parse(source)

    def nodes(self, *kinds):
        for path, source, tree in self.each():
            for node in ast.walk(tree):
                if isinstance(node, kinds):
                    yield f"{path.name}:{getattr(node, 'lineno', '?')}", node

    def test_files_and_signs(self):
        beside = [path for path in PACKAGE.rglob("*") if path.suffix != ".py" and "__pycache__" not in path.parts]
        self.assertEqual(beside, [])
        self.assertTrue((PACKAGE / "__init__.py").exists())
        for path, source, tree in self.each():
            self.assertRegex(path.name, r"^([a-z][a-z0-9_]*|__init__)\.py$")
            self.assertNotIn(path.stem, dir(builtins))
            self.assertRegex(source, r"\A[ -~\n]*\Z")
            self.assertIsNone(NEVER_WORDS.search(source))
            self.assertLessEqual(source.count("\n"), 400)
            self.assertLessEqual(max(map(len, source.splitlines())), 120)

    def test_top_of_a_file(self):
        for path, source, tree in self.each():
            bound = []
            for k, node in enumerate(tree.body):
                if k == 0:
                    self.assertTrue(is_docstring(node))
                elif isinstance(node, ast.ImportFrom):
                    self.assertTrue(node.level == 0 and node.module.startswith("regattawater."), node.module)
                    bound += [alias.name for alias in node.names]
                    self.assertTrue(all(alias.asname is None and alias.name != "*" for alias in node.names))
                    target = PACKAGE / (node.module.split(".", 1)[1] + ".py")
                    defined = re.findall(r"^(?:def |class )?(\w+)", target.read_text(), re.MULTILINE)
                    self.assertLessEqual({alias.name for alias in node.names}, set(defined))
                elif isinstance(node, (ast.FunctionDef, ast.ClassDef)):
                    bound.append(node.name)
                else:
                    self.assertIsInstance(node, ast.Assign)
                    bound.append(node.targets[0].id)
                    self.check_plain_value(node.value)
            self.assertEqual(len(bound), len(set(bound)))

    def check_plain_value(self, value):
        kinds = (ast.Constant, ast.Name, ast.List, ast.Tuple, ast.Dict, ast.UnaryOp, ast.USub, ast.Load)
        for node in ast.walk(value):
            self.assertIsInstance(node, kinds)
            self.assertTrue(node is value or not isinstance(node, (ast.List, ast.Dict)))

    def test_no_two_files_draw_from_one_another(self):
        draws = {}
        for path, source, tree in self.each():
            draws[path.stem] = {n.module.split(".")[1] for n in ast.walk(tree) if isinstance(n, ast.ImportFrom)}
        while draws:
            free = [stem for stem, needed in draws.items() if not needed & set(draws)]
            self.assertTrue(free, draws)
            for stem in free:
                draws.pop(stem)

    def test_statements(self):
        for where, node in self.nodes(ast.stmt):
            self.assertIsInstance(node, STATEMENTS, where)
            if isinstance(node, ast.Assign):
                self.assertEqual(len(node.targets), 1, where)
                self.assertNotIsInstance(node.targets[0], (ast.Tuple, ast.List), where)
            if isinstance(node, (ast.For, ast.While)):
                self.assertEqual(node.orelse, [], where)
            if isinstance(node, ast.Try):
                self.assertEqual(node.finalbody, [], where)
            if isinstance(node, ast.Raise):
                self.assertIsInstance(node.exc, ast.Call, where)
            if isinstance(node, ast.Expr) and not where.endswith(":1"):
                self.assertIsInstance(node.value, ast.Call, where)

    def test_functions_and_classes(self):
        for where, node in self.nodes(ast.FunctionDef):
            a = node.args
            self.assertFalse(node.decorator_list or a.vararg or a.kwarg or a.kwonlyargs or a.posonlyargs, where)
            self.assertIsNone(node.returns, where)
            self.assertTrue(all(arg.annotation is None for arg in a.args), where)
            self.assertLessEqual(node.end_lineno - node.lineno + 1, 40, where)
        for where, node in self.nodes(ast.ClassDef):
            self.assertFalse(node.decorator_list or node.keywords or len(node.bases) > 1, where)
            self.assertTrue(all(isinstance(inner, (ast.FunctionDef, ast.Pass)) for inner in node.body), where)

    def test_expressions(self):
        for where, node in self.nodes(ast.expr):
            self.assertIsInstance(node, EXPRESSIONS, where)
            if isinstance(node, ast.Constant):
                self.assertIn(type(node.value), (int, str, bool, type(None)), where)
                self.assertNotIn("%", str(node.value), where)
            if isinstance(node, ast.BinOp):
                self.assertNotIsInstance(node.op, (ast.Div, ast.MatMult, ast.Pow), where)
            if isinstance(node, ast.ListComp):
                self.assertTrue(len(node.generators) == 1 and len(node.generators[0].ifs) <= 1, where)
            if isinstance(node, ast.FormattedValue):
                self.assertTrue(isinstance(node.value, ast.Name) and node.format_spec is None, where)
            if isinstance(node, ast.Compare):
                for op, right in zip(node.ops, node.comparators):
                    if isinstance(op, (ast.Is, ast.IsNot)):
                        self.assertTrue(isinstance(right, ast.Constant) and right.value in (None, True, False), where)

    def test_escapes(self):
        for path, source, tree in self.each():
            self.assertEqual(set(re.findall(r"\\.", source)) - {"\\n", "\\t", "\\\\", "\\\"", "\\'"}, set())

    def test_names(self):
        for path, source, tree in self.each():
            taken = {n.name for n in tree.body if isinstance(n, ast.ClassDef)}
            for node in ast.walk(tree):
                if isinstance(node, ast.ImportFrom):
                    taken |= {alias.name for alias in node.names}
            for node in ast.walk(tree):
                if isinstance(node, ast.Name) and isinstance(node.ctx, ast.Store) or isinstance(node, ast.arg):
                    word = node.id if isinstance(node, ast.Name) else node.arg
                    self.assertRegex(word, r"^[A-Za-z][A-Za-z0-9_]*$")
                    self.assertNotIn(word, dir(builtins))
                    self.assertNotIn(word, taken)
                if isinstance(node, ast.Name):
                    self.assertNotIn(node.id, NEVER_NAMES)
                    self.assertTrue(node.id not in dir(builtins) or node.id in OWN_NAMES, node.id)
                if isinstance(node, (ast.FunctionDef, ast.ClassDef)) and node.name != "__init__":
                    self.assertRegex(node.name, r"^[A-Za-z][A-Za-z0-9_]*$")
                    self.assertNotIn(node.name, dir(builtins))

    def test_methods_and_values(self):
        for path, source, tree in self.each():
            calls = {id(node.func) for node in ast.walk(tree) if isinstance(node, ast.Call)}
            for node in ast.walk(tree):
                if not isinstance(node, ast.Attribute):
                    continue
                self.assertNotIn(node.attr, NEVER_NAMES)
                if id(node) in calls:
                    self.assertIn(node.attr, METHODS)
                else:
                    self.assertTrue(node.attr not in PYTHONS_ATTRIBUTES or node.attr in VALUES_ALLOWED, node.attr)

    def test_walked_on_the_spot(self):
        for path, source, tree in self.each():
            spots = set()
            for node in ast.walk(tree):
                if isinstance(node, (ast.For, ast.comprehension)):
                    spots.add(id(node.iter))
                if called(node) in WALKERS and node.args:
                    spots.add(id(node.args[0]))
            for node in ast.walk(tree):
                if called(node) in WALKED_ON_THE_SPOT:
                    self.assertIn(id(node), spots, f"{path.name}:{node.lineno}")

    def test_what_a_loop_walks_is_not_changed_in_it(self):
        for where, loop in self.nodes(ast.For):
            walked = {ast.unparse(loop.iter)} | {ast.unparse(arg) for arg in getattr(loop.iter, "args", [])}
            for node in ast.walk(loop):
                if called(node) in ("append", "clear", "extend", "insert", "pop", "remove", "reverse", "update"):
                    self.assertNotIn(ast.unparse(node.func.value), walked, where)
                if isinstance(node, ast.Subscript) and isinstance(node.ctx, ast.Store):
                    self.assertNotIn(ast.unparse(node.value), walked, where)

    def test_errors_taken(self):
        for where, node in self.nodes(ast.ExceptHandler):
            self.assertIsInstance(node.type, ast.Name, where)
            self.assertNotIn(node.type.id, ("Exception", "TypeError", "ValueError", "LookupError", "IndexError"), where)


if __name__ == "__main__":
    unittest.main()
