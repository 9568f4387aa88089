"""The rules of the language that can be seen in the files of the package."""

import ast
import builtins
import pathlib
import re
import unittest

PACKAGE = pathlib.Path(__file__).resolve().parent.parent / "callmelt"
BUILTINS = set(
    "len range enumerate zip min max sum abs sorted reversed int str bool bytes list tuple dict set isinstance ord "
    "repr any all divmod Exception ValueError TypeError KeyError IndexError LookupError ZeroDivisionError "
    "ArithmeticError OverflowError RuntimeError NotImplementedError AttributeError StopIteration NotImplemented".split()
)
METHODS = set(
    "append clear copy count endswith extend find get index insert isalnum isalpha isdigit islower isspace isupper "
    "items join keys ljust lower lstrip partition pop remove replace reverse rfind rjust rpartition rsplit rstrip "
    "setdefault split splitlines startswith strip update upper values zfill bit_length add discard".split()
)
DOUBLE = {"__init__", "__eq__", "__repr__", "__str__", "__len__"}
WORDS_NOWHERE = set(
    "type typing typing_extensions enum Enum IntEnum StrEnum Flag IntFlag Generic Protocol ABC ABCMeta namedtuple "
    "NamedTuple TypedDict TYPE_CHECKING abstractmethod".split()
)
NAMES_NOWHERE = set(
    "register mro elements open input version_info with_traceback add_note attrgetter breakpoint builtins compile "
    "copyright credits delattr dir eval exec exit gc getattr globals hasattr help id importlib license locals "
    "methodcaller os quit setattr super type vars sys".split()
)
STATEMENTS_NOWHERE = (
    ast.Global, ast.AsyncFunctionDef, ast.AsyncFor, ast.AsyncWith, ast.Import, ast.GeneratorExp, ast.Div, ast.MatMult,
)


def files():
    return sorted(PACKAGE.glob("*.py"))


def parsed(path):
    return ast.parse(path.read_text(encoding="ascii"))


def walked():
    for path in files():
        for node in ast.walk(parsed(path)):
            yield path.name, node


def functions(tree):
    return [node for node in ast.walk(tree) if isinstance(node, ast.FunctionDef)]


def imports(tree):
    return [node for node in ast.walk(tree) if isinstance(node, ast.ImportFrom)]


def names_given(function):
    """The parameters and local variables of a function, each with its line."""
    spec = function.args
    given = [(arg.arg, arg.lineno) for arg in spec.args + spec.kwonlyargs]
    stored = [node for node in ast.walk(function) if isinstance(node, ast.Name) and isinstance(node.ctx, ast.Store)]
    return given + [(node.id, node.lineno) for node in stored]


class TestFiles(unittest.TestCase):
    def test_the_folder_has_files_of_the_program_only(self):
        found = [path for path in PACKAGE.iterdir() if path.name != "__pycache__"]
        self.assertEqual(sorted(found), files())
        self.assertIn(PACKAGE / "__init__.py", found)
        for path in found:
            self.assertRegex(path.name, r"^(__init__|[a-z][a-z0-9_]*)\.py$")

    def test_signs_and_sizes(self):
        for path in files():
            text = path.read_text(encoding="utf-8")
            lines = text.split("\n")
            self.assertRegex(text, r"\A[ -~\n]*\Z", path.name)
            self.assertLessEqual(len(lines), 400, path.name)
            self.assertLessEqual(max(len(line) for line in lines), 120, path.name)
            for function in functions(parsed(path)):
                self.assertLessEqual(function.end_lineno - function.lineno + 1, 40, function.name)

    def test_words_that_stand_nowhere(self):
        for path in files():
            text = path.read_text(encoding="ascii")
            self.assertEqual(set(re.findall(r"\w+", text)) & WORDS_NOWHERE, set(), path.name)
            self.assertIsNone(re.search("dataclass|overload|contextmanager|[.]_+[\"']", text), path.name)
            self.assertIsNone(re.search(r"\\[^nt\\\"']", text), path.name)


class TestImports(unittest.TestCase):
    def test_imports_stand_at_the_top_and_name_the_file_that_defines_the_name(self):
        for path in files():
            tree = parsed(path)
            body = tree.body[1:]
            head = [node for at, node in enumerate(body) if all(isinstance(n, ast.ImportFrom) for n in body[:at + 1])]
            self.assertEqual([node.lineno for node in imports(tree)], [node.lineno for node in head], path.name)
            for node in head:
                self.assertEqual((node.level, node.module.split(".")[0]), (0, "callmelt"))
                other = parsed(PACKAGE / (node.module.split(".")[1] + ".py"))
                defined = [one.name for one in other.body if isinstance(one, (ast.FunctionDef, ast.ClassDef))]
                defined += [one.targets[0].id for one in other.body if isinstance(one, ast.Assign)]
                for alias in node.names:
                    self.assertIsNone(alias.asname)
                    self.assertIn(alias.name, defined)

    def test_what_is_imported_is_used(self):
        for path in files():
            tree = parsed(path)
            used = {node.id for node in ast.walk(tree) if isinstance(node, ast.Name)}
            for node in imports(tree):
                self.assertEqual([alias.name for alias in node.names if alias.name not in used], [], path.name)

    def test_no_two_files_import_from_each_other(self):
        above = {path.stem: [node.module.split(".")[1] for node in imports(parsed(path))] for path in files()}
        while above:
            free = [name for name in above if not any(other in above for other in above[name])]
            self.assertNotEqual(free, [])
            above = {name: above[name] for name in above if name not in free}


class TestNames(unittest.TestCase):
    def test_names_are_plain(self):
        for where, node in walked():
            names = [getattr(node, field, None) for field in ("id", "attr", "arg", "name")]
            for name in [name for name in names if isinstance(name, str)]:
                self.assertNotIn(name, NAMES_NOWHERE, where)
                self.assertTrue(name in DOUBLE or not name.startswith("_"), f"{where}: {name}")

    def test_no_variable_has_the_name_of_a_builtin_a_class_or_an_import(self):
        for path in files():
            tree = parsed(path)
            taken = set(dir(builtins)) | {alias.name for node in imports(tree) for alias in node.names}
            taken |= {node.name for node in tree.body if isinstance(node, (ast.ClassDef, ast.FunctionDef))}
            for function in functions(tree):
                for name, line in names_given(function):
                    self.assertNotIn(name, taken, f"{path.name}:{line}")

    def test_a_name_is_bound_once(self):
        for path in files():
            tree = parsed(path)
            bound = [alias.name for node in imports(tree) for alias in node.names]
            bound += [node.name for node in tree.body if isinstance(node, (ast.ClassDef, ast.FunctionDef))]
            bound += [node.targets[0].id for node in tree.body if isinstance(node, ast.Assign)]
            self.assertEqual(sorted(set(bound)), sorted(bound), path.name)

    def test_no_name_is_a_method_and_an_attribute(self):
        methods, attributes = set(), set()
        for where, node in walked():
            if isinstance(node, ast.ClassDef):
                methods |= {function.name for function in functions(node)}
            if isinstance(node, ast.Attribute) and isinstance(node.ctx, ast.Store):
                attributes.add(node.attr)
        self.assertEqual(methods & attributes, set())
        read = {node.attr for where, node in walked() if isinstance(node, ast.Attribute)}
        self.assertEqual(read - methods - attributes - METHODS - DOUBLE, set())


class TestStatements(unittest.TestCase):
    def test_module_level(self):
        for path in files():
            tree = parsed(path)
            self.assertIsNotNone(ast.get_docstring(tree), path.name)
            for node in tree.body[1:]:
                self.assertIsInstance(node, (ast.ImportFrom, ast.Assign, ast.FunctionDef, ast.ClassDef), path.name)

    def test_statements_and_values_that_stand_nowhere(self):
        for where, node in walked():
            self.assertNotIsInstance(node, STATEMENTS_NOWHERE, where)
            if isinstance(node, ast.Constant):
                self.assertNotIsInstance(node.value, (float, complex), where)
                self.assertNotIn("%", str(node.value), where)

    def test_builtins(self):
        for where, node in walked():
            if isinstance(node, ast.Name) and node.id in dir(builtins):
                self.assertIn(node.id, BUILTINS, f"{where}:{node.lineno}")

    def test_is_stands_beside_none_true_and_false_only(self):
        for where, node in walked():
            if isinstance(node, ast.Compare) and isinstance(node.ops[0], (ast.Is, ast.IsNot)):
                self.assertIsInstance(node.comparators[0], ast.Constant, f"{where}:{node.lineno}")

    def test_handlers_name_own_errors(self):
        own = {node.name for where, node in walked() if isinstance(node, ast.ClassDef)}
        for where, node in walked():
            if isinstance(node, ast.ExceptHandler):
                self.assertIsInstance(node.type, ast.Name, f"{where}:{node.lineno}")
                self.assertIn(node.type.id, own, f"{where}:{node.lineno}")

    def test_raised_is_an_error_made_on_the_spot(self):
        for where, node in walked():
            if isinstance(node, ast.Raise) and node.exc is not None:
                self.assertIsInstance(node.exc, ast.Call, f"{where}:{node.lineno}")
                self.assertIsInstance(node.exc.func, ast.Name, f"{where}:{node.lineno}")

    def test_what_is_iterated_at_once_is_not_stored(self):
        for where, node in walked():
            if isinstance(node, (ast.Assign, ast.Return)) and isinstance(node.value, ast.Call):
                told = getattr(node.value.func, "id", getattr(node.value.func, "attr", ""))
                self.assertNotIn(told, ["zip", "enumerate", "reversed", "range", "items", "keys", "values"], where)


if __name__ == "__main__":
    unittest.main()
