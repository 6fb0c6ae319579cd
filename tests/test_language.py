"""The rules of the language that can be seen in the text of a file, one test each."""

import ast
import builtins
import pathlib
import re
import unittest

FOLDER = pathlib.Path(__file__).resolve().parent.parent / "releasehouse"
PACKAGE = "releasehouse"

BUILTINS = set(
    "len range enumerate zip min max sum abs sorted reversed int str bool bytes list tuple dict set frozenset"
    " isinstance ord repr any all divmod pow map iter next getattr hasattr setattr type super property"
    " staticmethod classmethod Exception ValueError TypeError KeyError IndexError LookupError"
    " ZeroDivisionError ArithmeticError OverflowError RuntimeError NotImplementedError AttributeError"
    " StopIteration NotImplemented".split()
)
METHODS = set(
    "append clear copy count endswith extend find get index insert isalnum isalpha isdigit islower isspace"
    " isupper items join keys ljust lower lstrip partition pop remove replace reverse rfind rjust rpartition"
    " rsplit rstrip setdefault split splitlines startswith strip update upper values zfill bit_length title"
    " capitalize swapcase casefold center expandtabs removeprefix removesuffix rindex isascii isdecimal"
    " isnumeric istitle isidentifier isprintable encode decode add discard".split()
)
DOUBLE = set(
    "init eq repr str len enter exit call iter lt le gt ge ne add sub mul floordiv mod pow and or xor lshift"
    " rshift neg pos invert abs bool contains getitem setitem".split()
)
UNUSED = set(
    "mro elements open input law version_info with_traceback add_note register attrgetter breakpoint builtins"
    " compile copyright credits delattr dir eval exec exit gc globals help id importlib license locals"
    " methodcaller os quit vars sys".split()
)
WORDS = re.compile(
    r"\b(type|typing|typing_extensions|enum|Enum|IntEnum|StrEnum|Flag|IntFlag|Generic|Protocol|ABC|ABCMeta"
    r"|namedtuple|NamedTuple|TypedDict|TYPE_CHECKING|abstractmethod)\b|dataclass|overload|contextmanager"
)
BARRED = (
    ast.AsyncFunctionDef, ast.AsyncFor, ast.AsyncWith, ast.Await, ast.Import, ast.Div, ast.MatMult, ast.TryStar,
)
CHANGING = ("append", "clear", "extend", "insert", "pop", "remove", "reverse", "setdefault", "update")
LIST_TAKERS = ("any", "all", "min", "max", "sum", "sorted")
LIBRARY = ("heapq", "math", "itertools", "collections")


def files():
    return sorted(FOLDER.rglob("*.py"))


def trees():
    return [(file, ast.parse(file.read_text(encoding="utf-8"))) for file in files()]


def nodes(kinds):
    return [(file, node) for file, tree in trees() for node in ast.walk(tree) if isinstance(node, kinds)]


def methods_of():
    """Return the methods of all classes."""
    return [part for _, node in nodes(ast.ClassDef) for part in node.body if isinstance(part, ast.FunctionDef)]


def code_only(file):
    """Return the text of a file without comments and docstrings."""
    tree = ast.parse(file.read_text(encoding="utf-8"))
    for node in ast.walk(tree):
        if isinstance(node, (ast.Module, ast.ClassDef, ast.FunctionDef)) and ast.get_docstring(node) is not None:
            node.body[0].value.value = "docstring"
    return ast.unparse(tree)


def bound_names(tree):
    """Return all names that a file gives to variables, parameters, functions, classes and imports."""
    names = []
    for node in ast.walk(tree):
        if isinstance(node, ast.Name) and isinstance(node.ctx, ast.Store):
            names.append(node.id)
        elif isinstance(node, (ast.FunctionDef, ast.ClassDef)):
            names.append(node.name)
        elif isinstance(node, ast.arg):
            names.append(node.arg)
        elif isinstance(node, ast.ExceptHandler) and node.name:
            names.append(node.name)
        elif isinstance(node, ast.alias):
            names.append(node.name)
    return names


class LanguageTest(unittest.TestCase):

    def test_l1_only_python_files(self):
        found = [file for file in FOLDER.rglob("*") if "__pycache__" not in file.parts and not file.is_dir()]
        for file in found:
            self.assertRegex(file.name, r"^[a-z0-9_]+\.py$")
        self.assertIn(FOLDER / "__init__.py", found)
        self.assertLessEqual(len(found), 100)

    def test_l2_l16_imports(self):
        graph = {}
        for file, tree in trees():
            graph[file.stem] = []
            body = [node for node in tree.body if not isinstance(node, ast.Expr)]
            imports = [node for node in ast.walk(tree) if isinstance(node, (ast.Import, ast.ImportFrom))]
            self.assertEqual(imports, body[:len(imports)], file)
            for node in imports:
                self.assertIsInstance(node, ast.ImportFrom, file)
                self.assertEqual(node.level, 0, file)
                if node.module not in LIBRARY:
                    package, name = node.module.split(".")
                    self.assertEqual(package, PACKAGE, file)
                    graph[file.stem].append(name)
                    other = ast.parse((FOLDER / (name + ".py")).read_text(encoding="utf-8"))
                    defined = {part.name for part in other.body if isinstance(part, (ast.FunctionDef, ast.ClassDef))}
                    defined |= {part.targets[0].id for part in other.body if isinstance(part, ast.Assign)}
                    self.assertLessEqual({alias.name for alias in node.names}, defined, file)
                    self.assertEqual([alias.asname for alias in node.names], [None] * len(node.names), file)
        done = []
        while len(done) < len(graph):
            ready = [name for name in graph if name not in done and set(graph[name]) <= set(done)]
            self.assertTrue(ready, "imports come round")
            done += ready

    def test_l3_l15_module_level(self):
        for file, tree in trees():
            names = []
            for at, node in enumerate(tree.body):
                if isinstance(node, ast.Expr):
                    self.assertEqual(at, 0, file)
                elif isinstance(node, ast.Assign):
                    self.assertIsInstance(node.targets[0], ast.Name, file)
                    ast.literal_eval(node.value)
                    names.append(node.targets[0].id)
                elif isinstance(node, ast.ImportFrom):
                    names += [alias.name for alias in node.names]
                else:
                    self.assertIsInstance(node, (ast.FunctionDef, ast.ClassDef), file)
                    names.append(node.name)
            self.assertEqual(len(names), len(set(names)), file)

    def test_l15_names_of_imports_and_classes_are_not_used_again(self):
        for file, tree in trees():
            taken = {node.name for node in tree.body if isinstance(node, ast.ClassDef)}
            taken |= {alias.name for node in tree.body if isinstance(node, ast.ImportFrom) for alias in node.names}
            names = bound_names(tree)
            for name in taken:
                self.assertEqual(names.count(name), 1, (file, name))
            for name in names:
                self.assertNotIn(name, dir(builtins), file)

    def test_l4_l5_decorators_and_methods(self):
        for file, node in nodes((ast.FunctionDef, ast.ClassDef)):
            for decorator in node.decorator_list:
                self.assertIsInstance(node, ast.FunctionDef)
                text = ast.unparse(decorator)
                self.assertTrue(text in ("property", "staticmethod", "classmethod") or text.endswith(".setter"), file)
            if node.name.startswith("__"):
                self.assertIn(node.name.strip("_"), DOUBLE, file)

    def test_l5_properties_change_nothing(self):
        functions = {node.name for _, node in nodes(ast.FunctionDef) if not node.decorator_list}
        for file, node in nodes(ast.FunctionDef):
            if [ast.unparse(decorator) for decorator in node.decorator_list] == ["property"]:
                self.assertNotIn(node.name, {part.name for part in methods_of()} - {node.name}, file)
                self.assertNotIn(node.name, METHODS, file)
                self.assertEqual([argument.arg for argument in node.args.args], ["self"], file)
                stored = [part for part in ast.walk(node) if isinstance(part, (ast.Attribute, ast.Subscript))
                          and not isinstance(part.ctx, ast.Load)]
                self.assertEqual(stored, [], (file, node.name))
                for call in [part for part in ast.walk(node) if isinstance(part, ast.Call)]:
                    self.assertIsInstance(call.func, ast.Name, (file, node.name))
                    self.assertIn(call.func.id, functions | BUILTINS, (file, node.name))

    def test_l5_class_methods(self):
        for file, node in nodes(ast.FunctionDef):
            if [ast.unparse(decorator) for decorator in node.decorator_list] in (["classmethod"], ["staticmethod"]):
                self.assertEqual([part.name for part in methods_of()].count(node.name), 1, file)
                for part in ast.walk(node):
                    self.assertFalse(isinstance(part, (ast.Yield, ast.YieldFrom)), file)

    def test_l18_no_name_is_a_method_and_an_attribute_of_one_class(self):
        for file, node in nodes(ast.ClassDef):
            names = [part.name for part in node.body if isinstance(part, ast.FunctionDef)]
            self.assertEqual(len(names), len(set(names)), file)
            attributes = {part.attr for part in ast.walk(node) if isinstance(part, ast.Attribute)
                          and isinstance(part.ctx, ast.Store)}
            self.assertFalse(attributes & set(names), (file, node.name))

    def test_l18_attributes_are_assigned_by_the_package_and_through_local_names(self):
        stored = [node for _, node in nodes(ast.Attribute) if isinstance(node.ctx, ast.Store)]
        for node in stored:
            self.assertIsInstance(node.value, ast.Name, node.lineno)
        known = {node.attr for node in stored} | {part.name for part in methods_of()}
        for file, tree in trees():
            called = [node.func for node in ast.walk(tree) if isinstance(node, ast.Call)]
            for node in ast.walk(tree):
                if isinstance(node, ast.Attribute) and node not in called:
                    self.assertIn(node.attr, known, (file, node.lineno))

    def test_l23_what_a_loop_goes_over_is_not_changed_in_it(self):
        for file, node in nodes(ast.For):
            over = {ast.unparse(part) for part in ast.walk(node.iter) if isinstance(part, (ast.Name, ast.Attribute))}
            for call in [part for body in node.body for part in ast.walk(body) if isinstance(part, ast.Call)]:
                if isinstance(call.func, ast.Attribute) and call.func.attr in CHANGING:
                    self.assertNotIn(ast.unparse(call.func.value), over, (file, node.lineno))

    def test_l6_l7_statements_and_expressions(self):
        for file, node in nodes(BARRED):
            self.fail((file, node.lineno))
        for file, node in nodes(ast.Constant):
            self.assertNotIsInstance(node.value, (float, complex), file)

    def test_l7_some_builtins_take_lists(self):
        for file, node in nodes(ast.Call):
            if isinstance(node.func, ast.Name) and node.func.id in LIST_TAKERS:
                for argument in node.args:
                    self.assertNotIsInstance(argument, ast.GeneratorExp, (file, node.lineno))

    def test_l8_builtins(self):
        for file, node in nodes(ast.Name):
            if node.id in dir(builtins):
                self.assertIn(node.id, BUILTINS, (file, node.lineno))
            if node.id.startswith("__"):
                self.fail((file, node.lineno))

    def test_l10_sizes(self):
        for file in files():
            lines = file.read_text(encoding="utf-8").split("\n")
            self.assertLessEqual(len(lines), 399, file)
            self.assertLessEqual(max(len(line) for line in lines), 120, file)
        for file, node in nodes(ast.FunctionDef):
            self.assertLessEqual(node.end_lineno - node.lineno + 1, 40, (file, node.name))

    def test_l12_l17_names(self):
        for file, tree in trees():
            for name in bound_names(tree):
                if not (name.startswith("__") and name.endswith("__")):
                    self.assertRegex(name, r"^_?[A-Za-z][A-Za-z0-9_]*$|^_$", file)
                    self.assertNotIn(name, UNUSED, file)
        for file in files():
            self.assertIsNone(WORDS.search(code_only(file)), file)
        for file, node in nodes(ast.Name):
            self.assertFalse(node.id == "_" and isinstance(node.ctx, ast.Load), file)

    def test_l14_signs(self):
        for file in files():
            self.assertRegex(file.read_text(encoding="utf-8"), r"\A[ -~\n]*\Z", file)

    def test_l19_handlers(self):
        for file, node in nodes(ast.ExceptHandler):
            self.assertIsInstance(node.type, ast.Name, file)
            self.assertNotIn(node.type.id, dir(builtins), file)
        for file, node in nodes(ast.Raise):
            self.assertTrue(node.exc is None or isinstance(node.exc, ast.Call), file)

    def test_l20_is(self):
        for file, node in nodes(ast.Compare):
            for sign, right in zip(node.ops, node.comparators):
                if isinstance(sign, (ast.Is, ast.IsNot)):
                    self.assertIn(ast.unparse(right), ("None", "True", "False"), file)

    def test_l24_sets(self):
        for file, tree in trees():
            calls = [node for node in ast.walk(tree) if isinstance(node, ast.Call) and isinstance(node.func, ast.Name)]
            sets = [node for node in calls if node.func.id == "set"]
            held = [part for node in calls if node.func.id in ("sorted", "len") for part in node.args]
            for node in sets:
                self.assertIn(node, held, (file, node.lineno))

    def test_l25_methods(self):
        own = {node.name for _, node in nodes(ast.FunctionDef)}
        for file, node in nodes(ast.Call):
            if isinstance(node.func, ast.Attribute):
                self.assertIn(node.func.attr, METHODS | own, (file, node.lineno))
                self.assertTrue(node.func.attr in own or not node.keywords, (file, node.lineno))

    def test_l27_strings(self):
        for file in files():
            text = file.read_text(encoding="utf-8")
            self.assertNotIn(chr(37), text, file)
            self.assertIsNone(re.search(r"\\[^nt\\'\"]", text), file)

    def test_l28_equality(self):
        for file, node in nodes(ast.FunctionDef):
            if node.name == "__eq__":
                self.assertEqual(len(node.body), 1, file)
                self.assertTrue(ast.unparse(node.body[0]).startswith("return isinstance(other, "), file)


if __name__ == "__main__":
    unittest.main()
