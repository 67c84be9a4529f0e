"""The rules of LANGUAGE.md that can be seen in the package's text, L1 to L28, as far as it uses their ground."""
import ast
import builtins
import pathlib
import re
import unittest

PACKAGE = pathlib.Path(__file__).resolve().parent.parent / "hearthrules"
FILES = sorted(PACKAGE.glob("*.py"))
INTERFACE = {
    "errors": ("HearthError", "NoHouse", "NoSaying", "NoRule", "NoBook", "NoText", "NoStanding", "NoOuter", "NoCourse",
               "NoChange", "NoPair", "TooMany", "NoNumber", "NoRow", "LostError", "NoThing", "NoName"),
    "names": ("is_name",),
    "houses": ("House", "all_outer", "first_values"),
    "sayings": ("Saying",),
    "rules": ("Rule", "read_rule"),
    "books": ("Book", "read_book"),
    "moments": ("Moment", "first_standing", "moment"),
    "courses": ("Course", "plain"),
    "machines": ("Machine", "made"),
    "comes": ("clash", "restless", "doing", "silent"),
    "wishes": ("always",),
    "pairs": ("parted",),
    "few": ("fewest",),
    "runs": ("run", "moved"),
    "logs": ("log_of", "read_log", "is_log"),
    "papers": ("paper_clash", "paper_rests", "paper_doing", "paper_always", "paper_alike", "paper_fewest"),
    "desk": ("Desk",),
    "checker": ("holds",),
}
METHODS = {
    "House": ("__init__", "__len__", "__eq__", "__repr__", "__str__", "values_of"),
    "Saying": ("__init__", "__len__", "__eq__", "__repr__", "__str__", "so", "things"),
    "Rule": ("__init__", "__eq__", "__repr__", "__str__"),
    "Book": ("__init__", "__len__", "__eq__", "__repr__", "__str__", "named", "with_rule", "without", "size"),
    "Moment": ("__init__", "__len__", "__eq__", "__repr__"),
    "Course": ("__init__", "__len__", "__eq__", "__repr__"),
    "Machine": ("__init__", "__len__", "__eq__", "__repr__", "walk", "least"),
    "Desk": ("__init__", "say"),
}
BUILTINS = set(
    "len range enumerate zip min max sum abs sorted reversed int str bool bytes list tuple dict set frozenset "
    "isinstance ord repr any all divmod iter next super property staticmethod classmethod Exception ValueError "
    "TypeError KeyError IndexError LookupError ZeroDivisionError ArithmeticError OverflowError RuntimeError "
    "NotImplementedError AttributeError StopIteration NotImplemented object".split())
METHODS_OF_BUILTINS = set(
    "append clear copy count endswith extend find get index insert isalnum isalpha isdigit islower isspace isupper "
    "items join keys ljust lower lstrip partition pop remove replace reverse rfind rjust rpartition rsplit rstrip "
    "setdefault split splitlines startswith strip update upper values zfill bit_length add discard".split())
DOUBLE = set("__init__ __eq__ __repr__ __str__ __len__".split())
BARRED_WORDS = re.compile(
    r"\b(type|typing|typing_extensions|enum|Enum|IntEnum|StrEnum|Flag|IntFlag|Generic|Protocol|ABC|ABCMeta|namedtuple|"
    r"NamedTuple|TypedDict|TYPE_CHECKING|abstractmethod)\b|dataclass|overload|contextmanager")
BARRED_NAMES = set(
    "register mro elements open input law version_info with_traceback add_note format format_map".split())
TAKE_LISTS = ("any", "all", "min", "max", "sum", "sorted")


def trees():
    return [(path, ast.parse(path.read_text(encoding="utf-8"))) for path in FILES]


def bound_names(tree):
    """Each name that a file gives to something of its own."""
    for node in ast.walk(tree):
        if isinstance(node, (ast.FunctionDef, ast.ClassDef)):
            yield node.name
        elif isinstance(node, ast.arg):
            yield node.arg
        elif isinstance(node, ast.Name) and isinstance(node.ctx, ast.Store):
            yield node.id


class FilesTest(unittest.TestCase):
    def test_the_folder_holds_plain_files_alone(self):
        for path in PACKAGE.iterdir():
            if path.name != "__pycache__":
                self.assertRegex(path.name, r"^([a-z][a-z0-9_]*|__init__|__main__)\.py$")
        self.assertIn(PACKAGE / "__init__.py", FILES)

    def test_sizes_and_signs(self):
        for path in FILES:
            text = path.read_text(encoding="utf-8")
            self.assertRegex(text, r"\A[ -~\n]*\Z", path)
            lines = text.splitlines()
            self.assertLessEqual(len(lines), 399, path)
            self.assertLessEqual(max([len(line) for line in lines] + [0]), 120, path)

    def test_barred_words(self):
        for path in FILES:
            self.assertIsNone(BARRED_WORDS.search(path.read_text(encoding="utf-8")), path)

    def test_functions_have_at_most_forty_lines(self):
        for path, tree in trees():
            for node in ast.walk(tree):
                if isinstance(node, ast.FunctionDef):
                    self.assertLessEqual(node.end_lineno - node.lineno + 1, 40, (path, node.name))


class StatementsTest(unittest.TestCase):
    def test_module_level(self):
        allowed = (ast.ImportFrom, ast.FunctionDef, ast.ClassDef, ast.Assign)
        for path, tree in trees():
            for at, node in enumerate(tree.body):
                docstring = at == 0 and isinstance(node, ast.Expr) and isinstance(node.value, ast.Constant)
                self.assertTrue(docstring or isinstance(node, allowed), (path, node.lineno))

    def test_imports_name_the_file_of_the_package_that_defines_the_name(self):
        defined = {path.stem: [node.name for node in tree.body if isinstance(node, (ast.FunctionDef, ast.ClassDef))]
                   for path, tree in trees()}
        for path, tree in trees():
            for node in ast.walk(tree):
                self.assertNotIsInstance(node, ast.Import, path)
                if isinstance(node, ast.ImportFrom):
                    self.assertEqual(node.level, 0, path)
                    self.assertRegex(node.module, r"^hearthrules\.[a-z]+$")
                    for name in node.names:
                        self.assertIn(name.name, defined[node.module.split(".")[1]], path)

    def test_no_two_files_import_from_each_other(self):
        below = {path.stem: [node.module.split(".")[1] for node in tree.body if isinstance(node, ast.ImportFrom)]
                 for path, tree in trees()}
        while below:
            free = [name for name in below if not set(below[name]) & set(below)]
            self.assertNotEqual(free, [], below)
            for name in free:
                del below[name]

    def test_nothing_barred(self):
        barred = (ast.Global, ast.AsyncFunctionDef, ast.Await, ast.Div, ast.AnnAssign)
        for path, tree in trees():
            for node in ast.walk(tree):
                self.assertNotIsInstance(node, barred, path)
                if isinstance(node, ast.Constant):
                    self.assertNotIsInstance(node.value, (float, complex), path)
                    self.assertFalse(isinstance(node.value, str) and "%" in node.value, path)
                if isinstance(node, ast.Compare) and any(isinstance(op, (ast.Is, ast.IsNot)) for op in node.ops):
                    for side in node.comparators:
                        self.assertTrue(isinstance(side, ast.Constant) and side.value in (None, True, False), path)


class NamesTest(unittest.TestCase):
    def test_plain_names_that_mean_nothing_else(self):
        for path, tree in trees():
            for name in bound_names(tree):
                self.assertTrue(name in DOUBLE or re.fullmatch(r"[A-Za-z][A-Za-z0-9_]*", name), (path, name))
                self.assertNotIn(name, BARRED_NAMES, path)
                self.assertNotIn(name, dir(builtins), path)

    def test_a_name_is_bound_once_at_module_level(self):
        for path, tree in trees():
            names = []
            for node in tree.body:
                if isinstance(node, (ast.FunctionDef, ast.ClassDef)):
                    names.append(node.name)
                elif isinstance(node, ast.ImportFrom):
                    names += [name.asname or name.name for name in node.names]
                elif isinstance(node, ast.Assign):
                    names += [target.id for target in node.targets]
            self.assertEqual(len(names), len(set(names)), path)

    def test_no_variable_has_the_name_of_a_class_or_an_import_of_its_file(self):
        for path, tree in trees():
            taken = {node.name for node in tree.body if isinstance(node, ast.ClassDef)}
            taken |= {name.name for node in tree.body if isinstance(node, ast.ImportFrom) for name in node.names}
            for node in ast.walk(tree):
                if isinstance(node, ast.arg):
                    self.assertNotIn(node.arg, taken, path)
                elif isinstance(node, ast.Name) and isinstance(node.ctx, ast.Store):
                    self.assertNotIn(node.id, taken, path)

    def test_only_listed_builtins_are_read(self):
        for path, tree in trees():
            for node in ast.walk(tree):
                if isinstance(node, ast.Name) and node.id in dir(builtins):
                    self.assertIn(node.id, BUILTINS, path)

    def test_only_listed_methods_of_builtin_values(self):
        own = {name for path, tree in trees() for name in bound_names(tree)}
        own |= {node.attr for path, tree in trees() for node in ast.walk(tree)
                if isinstance(node, ast.Attribute) and isinstance(node.ctx, ast.Store)}
        for path, tree in trees():
            for node in ast.walk(tree):
                if isinstance(node, ast.Attribute):
                    self.assertIn(node.attr, own | METHODS_OF_BUILTINS | DOUBLE, path)

    def test_no_name_is_both_a_method_and_an_attribute(self):
        methods, attributes = set(), set()
        for path, tree in trees():
            for node in ast.walk(tree):
                if isinstance(node, ast.ClassDef):
                    methods |= {part.name for part in node.body if isinstance(part, ast.FunctionDef)}
                elif isinstance(node, ast.Attribute) and isinstance(node.ctx, ast.Store):
                    attributes.add(node.attr)
        self.assertEqual(methods & attributes, set())


class CallsTest(unittest.TestCase):
    def test_what_goes_through_all_takes_a_list(self):
        for path, tree in trees():
            for node in ast.walk(tree):
                if isinstance(node, ast.Call) and isinstance(node.func, ast.Name) and node.func.id in TAKE_LISTS:
                    for part in node.args:
                        self.assertNotIsInstance(part, ast.GeneratorExp, (path, node.lineno))

    def test_what_is_gone_through_at_once_is_not_stored(self):
        barred = ("zip", "enumerate", "reversed", "range", "items", "keys", "values")
        for path, tree in trees():
            for node in ast.walk(tree):
                if isinstance(node, (ast.Assign, ast.Return)) and isinstance(node.value, ast.Call):
                    called = node.value.func
                    self.assertNotIn(called.id if isinstance(called, ast.Name) else called.attr, barred, (path, node.lineno))

    def test_len_returns_a_len(self):
        for path, tree in trees():
            for node in ast.walk(tree):
                if isinstance(node, ast.FunctionDef) and node.name == "__len__":
                    last = node.body[-1]
                    self.assertTrue(isinstance(last, ast.Return) and isinstance(last.value, ast.Call), path)
                    self.assertEqual(last.value.func.id, "len", path)

    def test_texts_end_in_a_return_of_a_text(self):
        for path, tree in trees():
            for node in ast.walk(tree):
                if isinstance(node, ast.FunctionDef) and node.name in ("__repr__", "__str__"):
                    self.assertIsInstance(node.body[-1], ast.Return, path)
                    self.assertIsInstance(node.body[-1].value, (ast.JoinedStr, ast.Call), path)
                if isinstance(node, ast.JoinedStr):
                    self.assertEqual(node.lineno, node.end_lineno, path)

    def test_handlers_name_errors_of_the_package(self):
        own = INTERFACE["errors"]
        for path, tree in trees():
            for node in ast.walk(tree):
                if isinstance(node, ast.ExceptHandler):
                    kinds = node.type.elts if isinstance(node.type, ast.Tuple) else [node.type]
                    for kind in kinds:
                        self.assertIn(kind.id, own, path)

    def test_raise_creates_its_error_on_the_spot(self):
        for path, tree in trees():
            for node in ast.walk(tree):
                if isinstance(node, ast.Raise) and node.exc is not None:
                    self.assertTrue(isinstance(node.exc, ast.Call) and isinstance(node.exc.func, ast.Name), path)


class InterfaceTest(unittest.TestCase):
    def test_each_name_is_defined_in_the_file_under_which_it_is_listed(self):
        for module, names in INTERFACE.items():
            tree = ast.parse((PACKAGE / f"{module}.py").read_text(encoding="utf-8"))
            here = [node.name for node in tree.body if isinstance(node, (ast.FunctionDef, ast.ClassDef))]
            for name in names:
                self.assertIn(name, here)

    def test_each_method_is_defined_in_the_class_itself(self):
        found = {node.name: [part.name for part in node.body if isinstance(part, ast.FunctionDef)]
                 for path, tree in trees() for node in tree.body if isinstance(node, ast.ClassDef)}
        for kind, names in METHODS.items():
            for name in names:
                self.assertIn(name, found[kind])


if __name__ == "__main__":
    unittest.main()
