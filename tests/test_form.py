"""The form of the code: those rules of LANGUAGE.md that can be looked at file by file."""

import ast
import builtins
import pathlib
import re
import unittest

FOLDER = pathlib.Path(__file__).resolve().parent.parent / "downweigh"
ERRORS = """Exception ValueError TypeError KeyError IndexError LookupError ZeroDivisionError ArithmeticError OverflowError
    RuntimeError NotImplementedError AttributeError StopIteration""".split()
CALLED = """len range enumerate zip min max sum abs sorted reversed int str bool bytes list tuple dict set frozenset
    isinstance ord repr any all divmod iter next super NotImplemented property staticmethod classmethod""".split()
METHODS = """append clear copy count endswith extend find get index insert isalnum isalpha isdigit islower isspace isupper
    items join keys ljust lower lstrip partition pop remove replace reverse rfind rjust rpartition rsplit rstrip setdefault
    split splitlines startswith strip update upper values zfill bit_length title capitalize swapcase casefold center
    expandtabs removeprefix removesuffix rindex isascii isdecimal isnumeric istitle isidentifier isprintable add
    discard sort""".split()
DUNDERS = ["__init__", "__eq__", "__repr__", "__str__", "__len__"]
BARRED = """type typing typing_extensions enum Enum IntEnum StrEnum Flag IntFlag Generic Protocol ABC ABCMeta namedtuple
    NamedTuple TypedDict TYPE_CHECKING abstractmethod""".split()
NEVER_NAMES = """register mro elements open input version_info with_traceback add_note attrgetter breakpoint builtins compile
    copyright credits delattr dir eval exec exit gc getattr globals hasattr help id importlib license locals methodcaller
    os quit setattr type vars sys""".split()
AT_ONCE = ("zip", "enumerate", "reversed", "range", "items", "keys", "values")
TAKE_LISTS = ("any", "all", "min", "max", "sum", "sorted")


def files():
    return sorted(FOLDER.glob("*.py"))


def trees():
    return [(path, ast.parse(path.read_text())) for path in files()]


def nodes(kind):
    for path, tree in trees():
        for node in ast.walk(tree):
            if isinstance(node, kind):
                yield path.name, node


def name_of(call):
    return call.func.id if isinstance(call.func, ast.Name) else getattr(call.func, "attr", None)


def bound_at_top(tree):
    told = []
    for node in tree.body:
        if isinstance(node, (ast.FunctionDef, ast.ClassDef)):
            told.append(node.name)
        elif isinstance(node, ast.Assign):
            told.extend(target.id for target in node.targets)
        elif isinstance(node, ast.ImportFrom):
            told.extend(alias.asname or alias.name for alias in node.names)
    return told


class Files(unittest.TestCase):
    def test_the_folder_holds_plain_files_alone(self):
        for path in FOLDER.iterdir():
            if path.name != "__pycache__":
                self.assertRegex(path.name, r"^([a-z][a-z0-9_]*|__init__|__main__)\.py$")
                self.assertNotIn(path.stem, dir(builtins))
        self.assertLessEqual(len(files()), 100)

    def test_sizes_and_signs(self):
        for path in files():
            text = path.read_text()
            self.assertEqual([sign for sign in text if sign != "\n" and not " " <= sign <= "~"], [], path.name)
            rows = text.split("\n")
            self.assertLessEqual(len(rows), 400, path.name)
            self.assertLessEqual(max(len(row) for row in rows), 120, path.name)
        for name, node in nodes((ast.FunctionDef, ast.Lambda)):
            self.assertLessEqual(node.end_lineno - node.lineno + 1, 40, (name, node.lineno))

    def test_barred_words(self):
        for path in files():
            words = re.findall(r"[A-Za-z_0-9]+", path.read_text())
            self.assertEqual([word for word in words if word in BARRED], [], path.name)
            for part in ("dataclass", "overload", "contextmanager"):
                self.assertNotIn(part, path.read_text())


class Modules(unittest.TestCase):
    def test_imports_name_the_file_that_defines(self):
        defined = {path.stem: tree for path, tree in trees()}
        for path, tree in trees():
            for node in ast.walk(tree):
                self.assertNotIsInstance(node, ast.Import, path.name)
                if not isinstance(node, ast.ImportFrom):
                    continue
                self.assertIn(node, tree.body)
                self.assertEqual((node.level, node.module.split(".")[0], node.module.count(".")), (0, "downweigh", 1))
                other = defined[node.module.split(".")[1]]
                own = [told.name for told in other.body if isinstance(told, (ast.FunctionDef, ast.ClassDef))]
                own += [target.id for told in other.body if isinstance(told, ast.Assign) for target in told.targets]
                for alias in node.names:
                    self.assertIn(alias.name, own, path.name)

    def test_every_import_is_used(self):
        for path, tree in trees():
            used = {node.id for node in ast.walk(tree) if isinstance(node, ast.Name)}
            for node in tree.body:
                if isinstance(node, ast.ImportFrom):
                    for alias in node.names:
                        self.assertIn(alias.asname or alias.name, used, path.name)

    def test_no_files_import_each_other(self):
        asks = {}
        for path, tree in trees():
            asks[path.stem] = [node.module.split(".")[1] for node in tree.body if isinstance(node, ast.ImportFrom)]
        done = []
        while len(done) < len(asks):
            ready = [name for name in asks if name not in done and all(other in done for other in asks[name])]
            self.assertTrue(ready, [name for name in asks if name not in done])
            done.extend(ready)

    def test_what_stands_at_the_top(self):
        for path, tree in trees():
            for node in tree.body:
                if isinstance(node, ast.Expr):
                    self.assertIs(node, tree.body[0])
                    self.assertIsInstance(node.value, ast.Constant)
                else:
                    self.assertIsInstance(node, (ast.ImportFrom, ast.FunctionDef, ast.ClassDef, ast.Assign), path.name)
                if isinstance(node, ast.Assign):
                    for part in ast.walk(node.value):
                        self.assertNotIsInstance(part, (ast.Call, ast.ListComp, ast.Set, ast.DictComp), path.name)
            names = bound_at_top(tree)
            self.assertEqual(len(names), len(set(names)), path.name)


class Names(unittest.TestCase):
    def test_plain_and_not_taken(self):
        for path, tree in trees():
            taken = [node.name for node in tree.body if isinstance(node, ast.ClassDef)]
            taken += [alias.name for node in tree.body if isinstance(node, ast.ImportFrom) for alias in node.names]
            for node in ast.walk(tree):
                if isinstance(node, ast.arg):
                    name = node.arg
                elif isinstance(node, ast.Name) and isinstance(node.ctx, (ast.Store, ast.Del)):
                    name = node.id
                elif isinstance(node, (ast.FunctionDef, ast.ClassDef)):
                    if node.name not in DUNDERS:
                        self.assertRegex(node.name, r"^[A-Za-z][A-Za-z0-9_]*$")
                        self.assertNotIn(node.name, NEVER_NAMES)
                    continue
                else:
                    continue
                self.assertRegex(name, r"^[A-Za-z][A-Za-z0-9_]*$", path.name)
                self.assertNotIn(name, [*taken, *dir(builtins), *NEVER_NAMES], path.name)

    def test_builtins(self):
        for path, tree in trees():
            for node in ast.walk(tree):
                if isinstance(node, ast.Name) and node.id in dir(builtins):
                    self.assertIn(node.id, CALLED + ERRORS, (path.name, node.lineno))

    def test_no_name_is_a_method_and_an_attribute(self):
        methods = {part.name for file, node in nodes(ast.ClassDef) for part in node.body if isinstance(part, ast.FunctionDef)}
        fields = {node.attr for file, node in nodes(ast.Attribute) if isinstance(node.ctx, ast.Store)}
        self.assertEqual(methods & fields, set())
        for file, node in nodes(ast.Attribute):
            self.assertIn(node.attr, [*methods, *fields, *METHODS, *DUNDERS], (file, node.lineno))


class Code(unittest.TestCase):
    def test_kinds_that_are_not_used(self):
        barred = (ast.Global, ast.AsyncFunctionDef, ast.AsyncFor, ast.AsyncWith, ast.Await, ast.Div, ast.MatMult)
        for file, node in nodes(barred):
            self.fail((file, node))

    def test_sets_stand_only_where_they_are_asked(self):
        for path, tree in trees():
            asked = [other for node in ast.walk(tree) if isinstance(node, ast.Compare) for other in node.comparators]
            stored = [node.value for node in ast.walk(tree) if isinstance(node, ast.Assign)]
            for node in ast.walk(tree):
                if isinstance(node, (ast.Set, ast.SetComp)):
                    self.assertIn(node, asked + stored, (path.name, node.lineno))

    def test_constants(self):
        for file, node in nodes(ast.Constant):
            self.assertNotIsInstance(node.value, (float, complex, bytes), (file, node.lineno))
            if isinstance(node.value, str):
                self.assertNotIn("%", node.value)
        for path in files():
            self.assertEqual(re.findall(r"\\[^n\\\"']", path.read_text()), [], path.name)

    def test_powers_have_written_exponents(self):
        for file, node in nodes(ast.BinOp):
            if isinstance(node.op, ast.Pow):
                self.assertIsInstance(node.right, ast.Constant, (file, node.lineno))
                self.assertTrue(0 <= node.right.value <= 64)

    def test_is_only_with_none_true_false(self):
        for file, node in nodes(ast.Compare):
            for sign, other in zip(node.ops, node.comparators):
                if isinstance(sign, (ast.Is, ast.IsNot)):
                    self.assertIn(ast.unparse(other), ("None", "True", "False"), (file, node.lineno))

    def test_iterated_at_once(self):
        for path, tree in trees():
            allowed = []
            for node in ast.walk(tree):
                if isinstance(node, (ast.For, ast.comprehension)):
                    allowed.append(node.iter)
                elif isinstance(node, ast.Call) and name_of(node) in (
                        "list", "tuple", "dict", "sorted", "enumerate", "zip", "sum", "min", "max", "join", "reversed", "len"):
                    allowed.extend(node.args)
            for node in ast.walk(tree):
                if isinstance(node, ast.Call) and name_of(node) in AT_ONCE:
                    self.assertIn(node, allowed, (path.name, node.lineno))

    def test_calls(self):
        own = [node.name for file, node in nodes(ast.ClassDef)]
        for file, node in nodes(ast.Call):
            if name_of(node) in TAKE_LISTS and len(node.args) == 1:
                self.assertNotIsInstance(node.args[0], ast.GeneratorExp, (file, node.lineno))
            if isinstance(node.func, ast.Name) and node.func.id == "isinstance":
                self.assertIn(ast.unparse(node.args[1]), ("int", "str", "bool", "bytes", "list", "tuple", "dict", *own))

    def test_raised_on_the_spot(self):
        for file, node in nodes(ast.Raise):
            self.assertIsInstance(node.exc, ast.Call, (file, node.lineno))
            self.assertIsInstance(node.exc.func, ast.Name)

    def test_own_errors_alone_are_caught(self):
        own = [node.name for file, node in nodes(ast.ClassDef) if file == "errors.py"]
        for file, node in nodes(ast.ExceptHandler):
            caught = node.type.elts if isinstance(node.type, ast.Tuple) else [node.type]
            for kind in caught:
                self.assertIn(ast.unparse(kind), own, (file, node.lineno))

    def test_what_tells_of_an_object_changes_nothing(self):
        for file, node in nodes(ast.FunctionDef):
            if node.name in ("__eq__", "__repr__", "__str__", "__len__"):
                self.assertIsInstance(node.body[-1], ast.Return, (file, node.name))
                for part in ast.walk(node):
                    self.assertNotIsInstance(part, (ast.Assign, ast.AugAssign, ast.NamedExpr, ast.Delete), (file, node.name))
            if node.name == "__len__":
                self.assertRegex(ast.unparse(node.body[-1]), r"^return len\(")
            if node.name in ("__repr__", "__str__"):
                self.assertIsInstance(node.body[-1].value, ast.JoinedStr, (file, node.name))

    def test_nothing_that_is_gone_through_is_changed(self):
        for file, loop in nodes(ast.For):
            over = {ast.unparse(node) for node in ast.walk(loop.iter) if isinstance(node, (ast.Name, ast.Attribute))}
            if isinstance(loop.iter, ast.Call) and name_of(loop.iter) == "range":
                over = set()
            for node in [part for row in loop.body for part in ast.walk(row)]:
                if isinstance(node, ast.Subscript) and isinstance(node.ctx, (ast.Store, ast.Del)):
                    self.assertNotIn(ast.unparse(node.value), over, (file, node.lineno))
                if isinstance(node, ast.Call) and name_of(node) in ("append", "extend", "insert", "pop", "remove", "clear"):
                    self.assertNotIn(ast.unparse(node.func.value), over, (file, node.lineno))

    def test_docstrings_and_no_annotations(self):
        for file, node in nodes(ast.FunctionDef):
            self.assertIsNone(node.returns)
            self.assertEqual([arg.arg for arg in node.args.args if arg.annotation], [])
            self.assertEqual(node.args.posonlyargs, [])
            if node.name not in DUNDERS:
                self.assertTrue(ast.get_docstring(node), (file, node.name))


if __name__ == "__main__":
    unittest.main()
