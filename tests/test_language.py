"""What of the language's rules can be seen mechanically in the files of the package."""
import ast
import builtins
import unittest
from pathlib import Path

PACKAGE = Path(__file__).resolve().parent.parent / "windfigure"
FILES = sorted(PACKAGE.glob("*.py"))
# Some shells and test runners put the name _ among the builtins.
PYTHONS_OWN = set(dir(builtins)) - {"_"}
LIBRARY = {("math", "gcd"), ("math", "lcm"), ("itertools", "permutations"), ("itertools", "combinations")}
BUILTINS = set("""len range enumerate zip min max sum abs sorted reversed int str bool bytes list tuple dict set isinstance
any all divmod property ValueError""".split())
METHODS = {"append", "insert", "pop", "remove", "join", "partition", "removeprefix", "split"}
# The methods of the package's own classes.
OWN_METHODS = {"put", "drop", "wish", "lift", "named", "undo", "trial", "tried", "say", "need_known", "change"}
DOUBLE = {"__init__", "__enter__", "__exit__", "__len__", "__bool__", "__contains__"}
BARRED = set("""type typing enum Enum Flag Generic Protocol ABC namedtuple dataclass overload contextmanager register mro
elements open input law id dir vars eval exec compile help super sys os gc""".split())
FUNCTIONS = (ast.FunctionDef, ast.Lambda)
NOT_ALLOWED = (ast.AsyncFunctionDef, ast.Global, ast.Nonlocal, ast.GeneratorExp, ast.Yield, ast.YieldFrom, ast.Div,
               ast.Lambda, ast.NamedExpr, ast.AnnAssign, ast.MatMult, ast.Pow, ast.Delete, ast.Match)


def trees():
    return [(path, ast.parse(path.read_text(encoding="ascii"))) for path in FILES]


def imports_of(tree):
    return [node for node in ast.walk(tree) if isinstance(node, (ast.Import, ast.ImportFrom))]


def defined_in(tree):
    found = []
    for node in tree.body:
        if isinstance(node, (ast.FunctionDef, ast.ClassDef)):
            found.append(node.name)
        if isinstance(node, ast.Assign):
            found += [target.id for target in node.targets]
    return found


def functions_of(tree):
    return [node for node in ast.walk(tree) if isinstance(node, ast.FunctionDef)]


def bound_in(function):
    """The parameters, local variables and nested functions of a function."""
    found = [arg.arg for node in ast.walk(function) if isinstance(node, ast.arguments)
             for arg in node.posonlyargs + node.args + node.kwonlyargs]
    found += [node.id for node in ast.walk(function) if isinstance(node, ast.Name) and isinstance(node.ctx, ast.Store)]
    return found + [node.name for node in ast.walk(function) if isinstance(node, ast.FunctionDef) and node is not function]


class Files(unittest.TestCase):
    def test_there_is_nothing_else(self):
        names = [path.name for path in PACKAGE.iterdir() if path.name != "__pycache__"]
        self.assertEqual(sorted(names), [path.name for path in FILES])
        self.assertTrue(all(path.stem.replace("_", "").isalnum() for path in FILES))

    def test_signs_and_sizes(self):
        for path in FILES:
            data = path.read_bytes()
            self.assertTrue(all(byte == 10 or 32 <= byte < 127 for byte in data), path.name)
            lines = data.decode("ascii").split("\n")
            self.assertLessEqual(len(lines), 399, path.name)
            self.assertLessEqual(max(map(len, lines)), 120, path.name)
        for path, tree in trees():
            for node in functions_of(tree):
                self.assertLessEqual(node.end_lineno - node.lineno + 1, 40, node.name)

    def test_module_level(self):
        for path, tree in trees():
            for node in tree.body:
                docstring = isinstance(node, ast.Expr) and isinstance(node.value, ast.Constant)
                self.assertTrue(docstring or isinstance(
                    node, (ast.ImportFrom, ast.FunctionDef, ast.ClassDef, ast.Assign)), path.name)
                if isinstance(node, ast.Assign):
                    self.assertEqual(len(node.targets), 1)
                    above = [other.name for other in tree.body if isinstance(other, ast.FunctionDef)
                             and other.lineno < node.lineno]
                    self.check_plain(node.value, above)

    def check_plain(self, value, functions):
        """A literal, or a dict or a tuple of literals and of functions of the same file."""
        if isinstance(value, ast.Dict):
            for part in value.keys + value.values:
                self.check_plain(part, functions)
        elif isinstance(value, ast.Tuple):
            for part in value.elts:
                self.check_plain(part, functions)
        elif isinstance(value, ast.Name):
            self.assertIn(value.id, functions)
        else:
            ast.literal_eval(value)


class Imports(unittest.TestCase):
    def test_they_name_the_file_that_defines_the_name(self):
        defined = {"windfigure." + path.stem: defined_in(tree) for path, tree in trees()}
        for path, tree in trees():
            for node in imports_of(tree):
                self.assertIsInstance(node, ast.ImportFrom, path.name)
                self.assertEqual(node.level, 0)
                for alias in node.names:
                    self.assertIsNone(alias.asname)
                    if (node.module, alias.name) not in LIBRARY:
                        self.assertIn(alias.name, defined[node.module], path.name)

    def test_each_import_is_used(self):
        for path, tree in trees():
            used = [node.id for node in ast.walk(tree) if isinstance(node, ast.Name)]
            for node in imports_of(tree):
                for alias in node.names:
                    self.assertIn(alias.name, used, path.name)

    def test_no_circle(self):
        wants = {"windfigure." + path.stem: [node.module for node in imports_of(tree) if node.module.startswith("windf")]
                 for path, tree in trees()}
        while wants:
            free = [name for name in wants if not any(other in wants for other in wants[name])]
            self.assertNotEqual(free, [], sorted(wants))
            for name in free:
                del wants[name]

    def test_library_names_are_only_called(self):
        library = {name for module, name in LIBRARY}
        for path, tree in trees():
            called = [node.func for node in ast.walk(tree) if isinstance(node, ast.Call) and not node.keywords]
            for node in ast.walk(tree):
                if isinstance(node, ast.Name) and node.id in library:
                    self.assertIn(node, called, path.name)


class Names(unittest.TestCase):
    def test_one_binding_each(self):
        for path, tree in trees():
            names = defined_in(tree) + [alias.name for node in imports_of(tree) for alias in node.names]
            self.assertEqual(sorted(names), sorted(set(names)), path.name)
            self.assertFalse(set(names) & PYTHONS_OWN, path.name)

    def test_no_local_name_hides_another_one(self):
        for path, tree in trees():
            taken = {alias.name for node in imports_of(tree) for alias in node.names} | PYTHONS_OWN
            taken |= {node.name for node in tree.body if isinstance(node, ast.ClassDef)}
            for function in functions_of(tree):
                self.assertFalse(taken & set(bound_in(function)), (path.name, function.name))

    def test_words_that_are_not_used(self):
        for path, tree in trees():
            for node in ast.walk(tree):
                for field in ("id", "name", "attr", "arg"):
                    self.assertNotIn(getattr(node, field, None), BARRED, path.name)
                if isinstance(node, ast.Attribute) and node.attr.startswith("__"):
                    self.fail(path.name)

    def test_builtins(self):
        for path, tree in trees():
            bound = set(defined_in(tree)) | {alias.name for node in imports_of(tree) for alias in node.names}
            for function in functions_of(tree):
                bound |= set(bound_in(function))
            for node in ast.walk(tree):
                if isinstance(node, ast.Name) and node.id not in bound:
                    self.assertIn(node.id, BUILTINS, path.name)

    def test_methods(self):
        for path, tree in trees():
            for node in ast.walk(tree):
                if isinstance(node, ast.Call) and isinstance(node.func, ast.Attribute):
                    self.assertIn(node.func.attr, METHODS | OWN_METHODS, path.name)

    def test_own_methods(self):
        for path, tree in trees():
            for node in ast.walk(tree):
                if isinstance(node, ast.ClassDef):
                    for method in functions_of(node):
                        self.assertIn(method.name, OWN_METHODS | DOUBLE | {"names", "wishes"}, path.name)
                        self.assertEqual(method.args.args[0].arg, "self")


class Statements(unittest.TestCase):
    def test_what_is_not_allowed_or_not_needed(self):
        for path, tree in trees():
            for node in ast.walk(tree):
                self.assertNotIsInstance(node, NOT_ALLOWED, (path.name, getattr(node, "lineno", None)))
                for decorator in getattr(node, "decorator_list", []):
                    self.assertEqual(ast.unparse(decorator), "property", path.name)
                if isinstance(node, ast.Starred):
                    self.assertIsInstance(node.value, ast.Name, path.name)

    def test_handlers_name_the_own_base_class(self):
        for path, tree in trees():
            for node in ast.walk(tree):
                if isinstance(node, ast.Try):
                    self.assertEqual([handler.type.id for handler in node.handlers], ["WindError"], path.name)
                    self.assertEqual((node.finalbody, node.orelse, len(node.body)), ([], [], 1), path.name)

    def test_with_stands_over_a_trial(self):
        for path, tree in trees():
            for node in ast.walk(tree):
                if isinstance(node, ast.With):
                    self.assertEqual([ast.unparse(item.context_expr) for item in node.items], ["self.trial()"])

    def test_leaving_a_with_statement(self):
        for path, tree in trees():
            for node in functions_of(tree):
                if node.name == "__exit__":
                    for part in ast.walk(node):
                        self.assertNotIsInstance(part, (ast.Call, ast.Return, ast.Subscript, ast.BinOp, ast.For))
                    rows = [ast.unparse(part.test) for part in ast.walk(node) if isinstance(part, ast.If)]
                    self.assertEqual(rows, ["kind is not None"])

    def test_values(self):
        for path, tree in trees():
            for node in ast.walk(tree):
                if isinstance(node, ast.Constant):
                    self.assertNotIsInstance(node.value, (float, complex, bytes), path.name)
                    if isinstance(node.value, str):
                        self.assertFalse(set(node.value) & set("%\\{}"), path.name)

    def test_sets_stand_only_in_sorted_and_len(self):
        for path, tree in trees():
            right = [argument for node in ast.walk(tree) if isinstance(node, ast.Call)
                     and getattr(node.func, "id", None) in ("sorted", "len") for argument in node.args]
            for node in ast.walk(tree):
                self.assertNotIsInstance(node, ast.Set)
                if isinstance(node, ast.SetComp):
                    self.assertIn(node, right, path.name)

    def test_is_stands_beside_none(self):
        for path, tree in trees():
            for node in ast.walk(tree):
                if isinstance(node, ast.Compare) and isinstance(node.ops[0], (ast.Is, ast.IsNot)):
                    self.assertIsInstance(node.comparators[0], ast.Constant, path.name)

    def test_errors_are_made_on_the_spot(self):
        for path, tree in trees():
            for node in ast.walk(tree):
                if isinstance(node, ast.Raise):
                    self.assertIsInstance(node.exc, ast.Call)
                    self.assertIsInstance(node.exc.func, ast.Name)
                    self.assertIsNone(node.cause)


if __name__ == "__main__":
    unittest.main()
