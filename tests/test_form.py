"""The form of the package: what can be seen of its rules, and the interface [39] file by file."""

import ast
import builtins
import importlib
import inspect
import pathlib
import re
import unittest
import warnings

PACKAGE = pathlib.Path(__file__).resolve().parent.parent / "floorward"

FUNCTIONS = {
    "numbers": {"root": "n k", "rest": "n k", "poly_value": "poly r", "poly_sum": "one other",
                "poly_product": "one other", "poly_shift": "poly by", "sign_from": "poly first"},
    "averages": {"tells": "loop n"},
    "tables": {"table": "loop", "is_table": "loop thing", "stretches": "loop"},
    "verdicts": {"fault": "loop", "is_right": "loop", "parting": "one other", "alike": "one other",
                 "slower": "one other"},
    "choosing": {"changed": "loop field value", "right_values": "loop field", "mends": "loop"},
    "backs": {"right_starts": "loop n most", "told_back": "k n guesses"},
    "beginnings": {"too_low": "beginning k"},
    "halves": {"halves_tells": "halves bracket", "halves_fault": "halves bracket"},
    "steps": {"steps_tells": "steps", "steps_fault": "steps"},
    "texts": {"read_loop": "text"},
}
CLASSES = {
    "averages": {"Average": {"__init__": "self k a c d stop told mend", "step": "self n x", "run": "self n start",
                             "text": "self", "__eq__": "self other"},
                 "Run": {"__eq__": "self other"}},
    "verdicts": {"Fault": {}, "Parting": {}},
    "beginnings": {"Share": {"__init__": "self by more", "at": "self n k", "__eq__": "self other"},
                   "Power": {"__init__": "self more", "at": "self n k", "__eq__": "self other"}},
    "sought": {"Sought": {"__init__": "self kind by n", "compare": "self x", "answer": "self", "is_hit": "self"}},
    "halves": {"Halves": {"__init__": "self up test low high stop told plus", "run": "self sought lo hi",
                          "text": "self", "__eq__": "self other"},
               "HalvesRun": {}},
    "steps": {"Steps": {"__init__": "self test after last plus", "run": "self sought x p", "text": "self",
                        "__eq__": "self other"},
              "StepsRun": {}},
    "led": {"Led": {"__init__": "self loop n start", "round": "self", "put": "self guess", "undo": "self",
                    "trial": "self work", "twin": "self"}},
}
ALLOWED_BUILTINS = set("""len range enumerate zip min max sum abs sorted reversed int str bool list tuple dict set
    isinstance ord repr any all divmod iter next ValueError super""".split())
BARRED_WORDS = """type typing typing_extensions enum Enum IntEnum StrEnum Flag IntFlag Generic Protocol ABC ABCMeta
    namedtuple NamedTuple TypedDict TYPE_CHECKING abstractmethod""".split()
BARRED_NAMES = set("""register mro elements open input law version_info with_traceback add_note global
    is_integer bit_count conjugate from_bytes to_bytes""".split())


def files():
    return sorted(PACKAGE.glob("*.py"))


def nodes_of(path, *kinds):
    return [node for node in ast.walk(ast.parse(path.read_text())) if isinstance(node, kinds)]


class FormTest(unittest.TestCase):
    def test_the_folder_contains_nothing_but_files_of_the_package(self):
        inside = [path.name for path in PACKAGE.iterdir() if path.name != "__pycache__"]
        self.assertEqual(sorted(inside), [path.name for path in files()])
        self.assertIn("__init__.py", inside)

    def test_sizes_and_characters(self):
        for path in files():
            text = path.read_bytes().decode("ascii")
            self.assertEqual(re.findall(r"[^ -~\n]", text), [], path.name)
            lines = text.split("\n")
            self.assertLessEqual(len(lines), 399, path.name)
            self.assertLessEqual(max(len(line) for line in lines), 120, path.name)
            for node in nodes_of(path, ast.FunctionDef):
                self.assertLessEqual(node.end_lineno - node.lineno + 1, 40, (path.name, node.name))

    def test_python_gives_no_warning(self):
        with warnings.catch_warnings():
            warnings.simplefilter("error")
            for path in files():
                compile(path.read_text(), str(path), "exec")

    def test_barred_words(self):
        for path in files():
            text = path.read_text()
            for word in BARRED_WORDS:
                self.assertIsNone(re.search(rf"\b{word}\b", text), (path.name, word))
            for part in ("dataclass", "overload", "contextmanager"):
                self.assertNotIn(part, text, path.name)
            for node in nodes_of(path, ast.Constant):
                self.assertNotIn("%", str(node.value), (path.name, node.lineno))

    def test_imports_name_the_file_that_defines_the_name(self):
        for path in files():
            for node in nodes_of(path, ast.Import, ast.ImportFrom):
                self.assertIsInstance(node, ast.ImportFrom, path.name)
                self.assertTrue(node.level == 0 and node.module.startswith("floorward."), path.name)
                home = ast.parse((PACKAGE / f"{node.module.split('.')[1]}.py").read_text())
                defined = {thing.name for thing in home.body if isinstance(thing, (ast.FunctionDef, ast.ClassDef))}
                defined |= {target.id for thing in home.body if isinstance(thing, ast.Assign)
                            for target in thing.targets}
                self.assertEqual({alias.name for alias in node.names} - defined, set(), path.name)

    def test_no_powers_and_no_fractions(self):
        for path in files():
            for node in nodes_of(path, ast.BinOp, ast.AugAssign):
                self.assertNotIsInstance(node.op, (ast.Div, ast.Pow), (path.name, node.lineno))
            for node in nodes_of(path, ast.Constant):
                self.assertNotIsInstance(node.value, float, (path.name, node.lineno))

    def test_is_stands_with_none_true_and_false_only(self):
        for path in files():
            for node in nodes_of(path, ast.Compare):
                for op, right in zip(node.ops, node.comparators):
                    if isinstance(op, (ast.Is, ast.IsNot)):
                        self.assertIn(getattr(right, "value", 0), (None, True, False), (path.name, node.lineno))

    def test_names(self):
        every = set(dir(builtins))
        for path in files():
            for node in nodes_of(path, ast.Name, ast.arg, ast.FunctionDef, ast.ClassDef, ast.Attribute):
                name = getattr(node, "id", None) or getattr(node, "arg", None) or getattr(node, "name", None) \
                    or getattr(node, "attr", None)
                self.assertNotIn(name, BARRED_NAMES, (path.name, node.lineno))
                if isinstance(node, (ast.Name, ast.arg)) and name in every:
                    self.assertIn(name, ALLOWED_BUILTINS, (path.name, node.lineno))
                    self.assertIsInstance(getattr(node, "ctx", None), ast.Load, (path.name, node.lineno))
                self.assertTrue(not name.startswith("_") or name in ("__init__", "__eq__"), (path.name, name))

    def test_no_generator_expressions_and_no_annotations(self):
        for path in files():
            self.assertEqual(nodes_of(path, ast.GeneratorExp, ast.AnnAssign, ast.Global, ast.AsyncFunctionDef), [])

    def test_no_parameter_or_variable_has_the_name_of_a_class_or_an_import(self):
        for path in files():
            taken = {node.name for node in nodes_of(path, ast.ClassDef)}
            taken |= {alias.name for node in nodes_of(path, ast.ImportFrom) for alias in node.names}
            bound = {node.arg for node in nodes_of(path, ast.arg)}
            bound |= {node.id for node in nodes_of(path, ast.Name) if isinstance(node.ctx, ast.Store)}
            self.assertEqual(taken & bound, set(), path.name)

    def test_no_name_is_a_method_here_and_an_attribute_there(self):
        methods, attributes = set(), set()
        for path in files():
            for node in nodes_of(path, ast.ClassDef):
                methods |= {thing.name for thing in node.body if isinstance(thing, ast.FunctionDef)}
            attributes |= {node.attr for node in nodes_of(path, ast.Attribute) if isinstance(node.ctx, ast.Store)}
        self.assertEqual(methods & attributes, set())


class InterfaceTest(unittest.TestCase):
    def parameters(self, thing):
        return " ".join(inspect.signature(thing).parameters)

    def test_functions_stand_in_their_files(self):
        for name, functions in FUNCTIONS.items():
            module = importlib.import_module(f"floorward.{name}")
            for function, parameters in functions.items():
                thing = getattr(module, function)
                self.assertEqual(thing.__module__, f"floorward.{name}")
                self.assertEqual(self.parameters(thing), parameters)

    def test_classes_and_their_own_methods_stand_in_their_files(self):
        for name, classes in CLASSES.items():
            module = importlib.import_module(f"floorward.{name}")
            for kind, methods in classes.items():
                self.assertEqual(getattr(module, kind).__module__, f"floorward.{name}")
                for method, parameters in methods.items():
                    self.assertEqual(self.parameters(vars(getattr(module, kind))[method]), parameters)


if __name__ == "__main__":
    unittest.main()
