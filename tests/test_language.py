"""Those rules of the language that are easily counted, held against each file of the package."""

import ast
import builtins
import pathlib
import re
import unittest

PACKAGE = pathlib.Path(__file__).resolve().parent.parent / "crywalks"
WORDS_BARRED = ("type typing typing_extensions enum Enum IntEnum StrEnum Flag IntFlag Generic Protocol ABC ABCMeta"
                " namedtuple NamedTuple TypedDict TYPE_CHECKING abstractmethod").split()
BUILTINS = ("len range enumerate zip min max sum abs sorted reversed int str bool bytes list tuple dict set frozenset"
            " isinstance ord repr any all divmod iter next super").split()
METHODS = ("append clear copy count endswith extend find get index insert isalnum isalpha isdigit islower isspace isupper"
           " items join keys ljust lower lstrip partition pop remove replace reverse rfind rjust rpartition rsplit rstrip"
           " setdefault split splitlines startswith strip update upper values zfill bit_length").split()
STATEMENTS_BARRED = (ast.Global, ast.AsyncFunctionDef, ast.AsyncFor, ast.AsyncWith, ast.Import, ast.Div)


def files():
    return sorted(PACKAGE.glob("*.py"))


def nodes(kind):
    for file in files():
        for node in ast.walk(ast.parse(file.read_text())):
            if isinstance(node, kind):
                yield file.name, node


def bound_in(tree):
    """The names that a file binds at its top, but by imports."""
    names = [part.name for part in tree.body if isinstance(part, (ast.FunctionDef, ast.ClassDef))]
    return names + [target.id for part in tree.body if isinstance(part, ast.Assign) for target in part.targets]


def imports_of(tree):
    """Tuples (file, name), by its imports."""
    return [(part.module.split(".")[1], one.name) for part in tree.body if isinstance(part, ast.ImportFrom)
            for one in part.names]


def trees():
    return {file.stem: ast.parse(file.read_text()) for file in files()}


class Names(unittest.TestCase):
    def test_imported_from_where_they_are_defined(self):
        told = trees()
        for file, tree in told.items():
            for source, name in imports_of(tree):
                with self.subTest(file=file, name=name):
                    self.assertIn(name, bound_in(told[source]))

    def test_no_two_files_import_from_each_other(self):
        ahead = {file: {source for source, name in imports_of(tree)} for file, tree in trees().items()}
        while ahead:
            free = [file for file in ahead if not ahead[file]]
            self.assertTrue(free, ahead)
            ahead = {file: ahead[file] - set(free) for file in ahead if file not in free}

    def test_bound_once(self):
        for file, tree in trees().items():
            names = bound_in(tree) + [name for source, name in imports_of(tree)]
            self.assertEqual((file, len(names)), (file, len(set(names))))

    def test_no_local_name_of_an_import_or_class(self):
        for file, tree in trees().items():
            taken = {name for source, name in imports_of(tree)}
            taken |= {part.name for part in tree.body if isinstance(part, ast.ClassDef)}
            for node in ast.walk(tree):
                name = node.arg if isinstance(node, ast.arg) else None
                if isinstance(node, ast.Name) and isinstance(node.ctx, ast.Store):
                    name = node.id
                with self.subTest(file=file, name=name):
                    self.assertNotIn(name, taken)

    def test_every_import_is_used(self):
        for file, tree in trees().items():
            used = {node.id for node in ast.walk(tree) if isinstance(node, ast.Name)}
            self.assertEqual((file, {name for source, name in imports_of(tree)} - used), (file, set()))

    def test_methods_and_attributes(self):
        own = {part.name for _, node in nodes(ast.ClassDef) for part in node.body if isinstance(part, ast.FunctionDef)}
        stored = {node.attr for _, node in nodes(ast.Attribute) if isinstance(node.ctx, ast.Store)}
        for file, tree in trees().items():
            called = [node.func for node in ast.walk(tree) if isinstance(node, ast.Call)]
            for node in ast.walk(tree):
                if isinstance(node, ast.Attribute):
                    with self.subTest(file=file, row=node.lineno, name=node.attr):
                        self.assertIn(node.attr, own | set(METHODS) if node in called else stored)


class Language(unittest.TestCase):
    def test_files_and_signs(self):
        self.assertIn("__init__.py", [file.name for file in files()])
        for file in PACKAGE.iterdir():
            if file.name != "__pycache__":
                self.assertRegex(file.name, r"^[a-z0-9_]+\.py$")
        for file in files():
            rows = file.read_text(encoding="ascii").split("\n")
            with self.subTest(file=file.name):
                self.assertLessEqual(len(rows), 399)
                self.assertLessEqual(max(len(row) for row in rows), 120)
                self.assertRegex(file.read_text(), r"\A[ -~\n]*\Z")

    def test_words_barred(self):
        for file in files():
            found = set(re.findall(r"\w+", file.read_text())) & set(WORDS_BARRED)
            self.assertEqual((file.name, found), (file.name, set()))

    def test_functions_are_short(self):
        for file, node in nodes(ast.FunctionDef):
            with self.subTest(file=file, name=node.name):
                self.assertLessEqual(node.end_lineno - node.lineno + 1, 40)
                self.assertEqual(node.decorator_list, [])
                self.assertEqual(node.args.posonlyargs, [])

    def test_imports(self):
        for file, node in nodes(ast.ImportFrom):
            with self.subTest(file=file, module=node.module):
                self.assertEqual(node.level, 0)
                self.assertRegex(node.module, r"^crywalks\.[a-z]+$")

    def test_statements_barred(self):
        self.assertEqual([(file, node.lineno) for file, node in nodes(STATEMENTS_BARRED)], [])

    def test_literals(self):
        for file, node in nodes(ast.Constant):
            with self.subTest(file=file, row=node.lineno):
                self.assertNotIsInstance(node.value, (float, complex))
                if isinstance(node.value, str):
                    self.assertNotIn("%", node.value)

    def test_is(self):
        for file, node in nodes(ast.Compare):
            for sign, right in zip(node.ops, node.comparators):
                if isinstance(sign, (ast.Is, ast.IsNot)):
                    with self.subTest(file=file, row=node.lineno):
                        self.assertIsInstance(right, ast.Constant)
                        self.assertIn(right.value, (None, True, False))

    def test_names(self):
        allowed = set(BUILTINS)
        for file, node in nodes((ast.Name, ast.arg, ast.Attribute)):
            name = node.id if isinstance(node, ast.Name) else node.arg if isinstance(node, ast.arg) else node.attr
            with self.subTest(file=file, row=node.lineno, name=name):
                self.assertFalse(name.startswith("_"))
                if isinstance(node, ast.Name) and name in dir(builtins) and name.islower():
                    self.assertIn(name, allowed)
                    self.assertIsInstance(node.ctx, ast.Load)

    def test_no_name_is_both_method_and_attribute(self):
        methods = {part.name for _, node in nodes(ast.ClassDef) for part in node.body
                   if isinstance(part, ast.FunctionDef)}
        stored = {node.attr for _, node in nodes(ast.Attribute) if isinstance(node.ctx, ast.Store)}
        self.assertEqual(methods & stored, set())

    def test_any_and_all_take_lists(self):
        # A class with an __eq__ of its own is in the package.
        for file, node in nodes(ast.Call):
            if isinstance(node.func, ast.Name) and node.func.id in ("any", "all", "min", "max", "sum", "sorted"):
                with self.subTest(file=file, row=node.lineno):
                    self.assertFalse([one for one in node.args if isinstance(one, ast.GeneratorExp)])


if __name__ == "__main__":
    unittest.main()
