import ast
import pathlib
import re
import unittest

PACKAGE = pathlib.Path(__file__).resolve().parent.parent / "farfloor"

STATEMENTS = (
    ast.FunctionDef, ast.ClassDef, ast.ImportFrom, ast.Assign, ast.AugAssign, ast.If, ast.While, ast.For,
    ast.Return, ast.Break, ast.Continue, ast.Pass, ast.Raise, ast.Try, ast.Expr,
)
NO_EXPRESSIONS = (
    ast.SetComp, ast.DictComp, ast.GeneratorExp, ast.NamedExpr, ast.Starred, ast.Await, ast.Yield, ast.YieldFrom,
)
BUILTINS = set(dir(__builtins__) if not isinstance(__builtins__, dict) else __builtins__)
ALLOWED = set(
    "len range enumerate zip min max sum abs sorted reversed int str bool list tuple dict set frozenset isinstance "
    "ord repr any all divmod ValueError KeyError IndexError LookupError ZeroDivisionError ArithmeticError "
    "OverflowError RuntimeError NotImplementedError Exception StopIteration True False None".split()
)
# Rule L25: the only methods of Python's own values.
METHODS = set(
    "append clear copy count endswith extend find get index insert isalnum isalpha isdigit islower isspace isupper "
    "items join keys ljust lower lstrip partition pop remove replace reverse rfind rjust rpartition rsplit rstrip "
    "setdefault split splitlines startswith strip update upper values zfill bit_length".split()
)
# Rule L23: what these give is walked on the spot.
WALKED = {"zip", "enumerate", "reversed", "range"}
WALKERS = {"list", "tuple", "dict", "sorted", "sum", "any", "all", "enumerate", "zip", "min", "max"}
# Rule L17: words that stand nowhere in a file.
UNSAID = set(
    "type typing typing_extensions enum Enum IntEnum StrEnum Flag IntFlag Generic Protocol ABC ABCMeta namedtuple "
    "NamedTuple TypedDict TYPE_CHECKING abstractmethod".split()
)
SPECIAL = {"__init__", "__eq__", "__repr__", "__str__", "__len__"}


def sources():
    return [(path.name, path.read_text(encoding="ascii")) for path in sorted(PACKAGE.glob("*.py"))]


class FormTest(unittest.TestCase):
    def each_node(self):
        for name, text in sources():
            for node in ast.walk(ast.parse(text)):
                yield f"{name}:{getattr(node, 'lineno', 0)}", node

    def test_only_plain_files_lie_in_the_package(self):
        names = [path.name for path in PACKAGE.iterdir() if path.name != "__pycache__"]
        self.assertIn("__init__.py", names)
        for name in names:
            self.assertRegex(name, r"\A(__init__|[a-z][a-z0-9_]*)\.py\Z")

    def test_signs_and_sizes(self):
        for name, text in sources():
            self.assertLessEqual(len(text.splitlines()), 400, name)
            for sign in set(text):
                self.assertTrue(sign == "\n" or " " <= sign <= "~", (name, sign))
            for row in text.splitlines():
                self.assertLessEqual(len(row), 120, (name, row))
        for place, node in self.each_node():
            if isinstance(node, ast.FunctionDef):
                self.assertLessEqual(node.end_lineno - node.lineno + 1, 40, place)

    def test_statements(self):
        for place, node in self.each_node():
            if isinstance(node, ast.stmt):
                self.assertIsInstance(node, STATEMENTS, place)
            if isinstance(node, ast.Assign):
                self.assertEqual(len(node.targets), 1, place)
            if isinstance(node, (ast.For, ast.While)):
                self.assertEqual(node.orelse, [], place)
            if isinstance(node, ast.Try):
                self.assertEqual(node.finalbody, [], place)
            if isinstance(node, (ast.FunctionDef, ast.ClassDef)):
                self.assertEqual(node.decorator_list, [], place)

    def test_expressions(self):
        for place, node in self.each_node():
            self.assertNotIsInstance(node, NO_EXPRESSIONS, place)
            if isinstance(node, ast.BinOp):
                self.assertNotIsInstance(node.op, ast.Div, place)
                self.assertFalse(isinstance(node.op, ast.Pow) and not isinstance(node.right, ast.Constant), place)
            if isinstance(node, ast.Constant):
                self.assertNotIsInstance(node.value, (float, complex, bytes), place)
                self.assertNotIn("%", str(node.value), place)
            if isinstance(node, ast.FormattedValue):
                self.assertIsInstance(node.value, ast.Name, place)
                self.assertIsNone(node.format_spec, place)
            if isinstance(node, ast.Compare):
                for sort, side in zip(node.ops, node.comparators):
                    if isinstance(sort, (ast.Is, ast.IsNot)):
                        self.assertTrue(isinstance(side, ast.Constant) and side.value in (None, True, False), place)
            if isinstance(node, ast.ListComp):
                self.assertEqual(len(node.generators), 1, place)
                self.assertLessEqual(len(node.generators[0].ifs), 1, place)

    def test_imports_are_the_package_s_own(self):
        for place, node in self.each_node():
            if isinstance(node, ast.ImportFrom):
                self.assertEqual(node.level, 0, place)
                self.assertTrue(node.module.startswith("farfloor."), place)

    def test_names(self):
        for place, node in self.each_node():
            if isinstance(node, ast.Name):
                self.assertFalse(node.id.startswith("_"), place)
                self.assertFalse(node.id in BUILTINS and node.id not in ALLOWED, place)
            if isinstance(node, ast.arg):
                self.assertNotIn(node.arg, BUILTINS, place)
            if isinstance(node, ast.Attribute):
                self.assertTrue(not node.attr.startswith("_") or node.attr in SPECIAL, place)

    def methods(self):
        return {
            part.name
            for _, node in self.each_node() if isinstance(node, ast.ClassDef)
            for part in node.body if isinstance(part, ast.FunctionDef)
        }

    def test_no_name_is_a_method_and_a_value(self):
        for place, node in self.each_node():
            if isinstance(node, ast.Attribute) and isinstance(node.ctx, ast.Store):
                self.assertNotIn(node.attr, self.methods(), place)

    def test_methods_are_own_or_listed(self):
        known = self.methods() | METHODS
        for place, node in self.each_node():
            if isinstance(node, ast.Call) and isinstance(node.func, ast.Attribute):
                self.assertIn(node.func.attr, known, place)

    def test_no_local_is_called_like_an_import_or_a_class(self):
        for name, text in sources():
            tree = ast.parse(text)
            taken = {part.name for part in tree.body if isinstance(part, ast.ClassDef)}
            for part in tree.body:
                if isinstance(part, ast.ImportFrom):
                    taken |= {one.name for one in part.names}
            for node in ast.walk(tree):
                if isinstance(node, ast.arg):
                    self.assertNotIn(node.arg, taken, f"{name}:{node.lineno}")
                if isinstance(node, ast.Name) and isinstance(node.ctx, ast.Store):
                    self.assertNotIn(node.id, taken | BUILTINS, f"{name}:{node.lineno}")

    def test_one_name_is_assigned_at_a_time(self):
        for place, node in self.each_node():
            if isinstance(node, ast.Assign):
                self.assertIsInstance(node.targets[0], (ast.Name, ast.Attribute, ast.Subscript), place)

    def test_walked_on_the_spot(self):
        for name, text in sources():
            tree = ast.parse(text)
            fine = set()
            for node in ast.walk(tree):
                if isinstance(node, (ast.For, ast.comprehension)):
                    fine.add(node.iter)
                if isinstance(node, ast.Call) and isinstance(node.func, ast.Name) and node.func.id in WALKERS:
                    fine |= set(node.args[:1])
            for node in ast.walk(tree):
                if isinstance(node, ast.Call) and isinstance(node.func, ast.Name) and node.func.id in WALKED:
                    self.assertIn(node, fine, f"{name}:{node.lineno}")

    def test_words_that_are_not_said(self):
        for name, text in sources():
            self.assertEqual(set(re.findall(r"\w+", text)) & UNSAID, set(), name)
            self.assertNotRegex(text, "dataclass|overload|contextmanager", name)

    def test_imports_never_go_round(self):
        drawn = {}
        for name, text in sources():
            froms = [node.module for node in ast.parse(text).body if isinstance(node, ast.ImportFrom)]
            drawn["farfloor." + name.removesuffix(".py")] = froms
        while drawn:
            free = [name for name, froms in drawn.items() if not any(other in drawn for other in froms)]
            self.assertNotEqual(free, [], drawn)
            for name in free:
                drawn.pop(name)


if __name__ == "__main__":
    unittest.main()
