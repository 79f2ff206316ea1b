"""What can be seen from outside of the rules of the language for the package's files.

The numbers in the tests' names are those of the rules. Not every rule can be checked
in a few lines: those that are not here are for the reader.
"""

import ast
import builtins
import re
import unittest
from pathlib import Path

FOLDER = Path(__file__).parent.parent / "slabpins"

BUILTINS = """len range enumerate zip min max sum abs sorted reversed int str bool list tuple dict set isinstance ord
repr any all divmod iter next Exception ValueError TypeError KeyError IndexError LookupError ZeroDivisionError
StopIteration""".split()

WORDS = """type typing typing_extensions enum Enum IntEnum StrEnum Flag IntFlag Generic Protocol ABC ABCMeta namedtuple
NamedTuple TypedDict TYPE_CHECKING abstractmethod""".split()

NAMES = """register mro elements open input law version_info with_traceback add_note attrgetter breakpoint builtins
compile copyright credits delattr dir eval exec exit gc getattr globals hasattr help id importlib license locals
methodcaller os quit setattr super type vars sys __name__""".split()

METHODS = """append clear copy count endswith extend find get index insert isalnum isalpha isdigit islower isspace
isupper items join keys ljust lower lstrip partition pop remove replace reverse rfind rjust rpartition rsplit rstrip
setdefault split splitlines startswith strip update upper values zfill bit_length add discard""".split()

AT_ONCE = "list tuple dict sorted sum any all enumerate zip min max".split()

SPECIAL = "__init__ __eq__ __repr__ __str__ __len__".split()

BARRED = (
    ast.AsyncFor, ast.AsyncFunctionDef, ast.AsyncWith, ast.Await, ast.Div, ast.GeneratorExp, ast.Global, ast.Import,
    ast.MatMult,
)


def own_names(tree, kinds):
    return [node.name for node in ast.walk(tree) if isinstance(node, kinds)]


class Language(unittest.TestCase):
    @classmethod
    def setUpClass(cls):
        cls.texts = {path.name: path.read_text("utf-8") for path in sorted(FOLDER.glob("*.py"))}
        cls.trees = {name: ast.parse(text) for name, text in cls.texts.items()}
        cls.nodes = [(name, node) for name, tree in cls.trees.items() for node in ast.walk(tree)]

    def each(self, *kinds):
        for name, node in self.nodes:
            if isinstance(node, kinds):
                yield f"{name}:{getattr(node, 'lineno', 0)}", node

    def test_l1_the_folder_holds_nothing_else(self):
        for path in FOLDER.iterdir():
            if path.name != "__pycache__":
                self.assertRegex(path.name, r"^[a-z_]+\.py$")
        self.assertIn("__init__.py", self.texts)

    def test_l2_l16_imports(self):
        for place, node in self.each(ast.ImportFrom):
            self.assertEqual(node.level, 0, place)
            self.assertRegex(node.module, r"^slabpins\.", place)
            given = self.trees[node.module.split(".")[1] + ".py"]
            defined = own_names(given, (ast.FunctionDef, ast.ClassDef))
            defined += [goal.id for row in given.body if isinstance(row, ast.Assign) for goal in row.targets]
            for item in node.names:
                self.assertIn(item.name, defined, place)

    def test_l3_l15_module_level(self):
        for name, tree in self.trees.items():
            bound = []
            for row in tree.body:
                if isinstance(row, ast.ImportFrom):
                    bound += [item.asname or item.name for item in row.names]
                elif isinstance(row, ast.Assign):
                    bound += [goal.id for goal in row.targets]
                elif isinstance(row, (ast.FunctionDef, ast.ClassDef)):
                    bound.append(row.name)
                else:
                    self.assertIsInstance(row.value.value, str, name)
            self.assertEqual(len(bound), len(set(bound)), name)

    def test_l10_size(self):
        for name, text in self.texts.items():
            self.assertLessEqual(len(text.splitlines()), 399, name)
            for line in text.splitlines():
                self.assertLessEqual(len(line), 120, line)
        for place, node in self.each(ast.FunctionDef):
            self.assertLessEqual(node.end_lineno - node.lineno + 1, 40, place)

    def test_l14_characters(self):
        for name, text in self.texts.items():
            self.assertRegex(text, r"\A[ -~\n]*\Z", name)

    def test_l17_words(self):
        for name, text in self.texts.items():
            for word in WORDS:
                self.assertIsNone(re.search(rf"\b{word}\b", text), (name, word))
            self.assertIsNone(re.search("dataclass|overload|contextmanager", text), name)

    def test_l8_builtins(self):
        for place, node in self.each(ast.Name):
            if isinstance(node.ctx, ast.Load) and hasattr(builtins, node.id):
                self.assertIn(node.id, BUILTINS, place)

    def test_l8_l12_l15_l17_names(self):
        names = [(place, node.arg) for place, node in self.each(ast.arg)]
        names += [(place, node.id) for place, node in self.each(ast.Name) if isinstance(node.ctx, ast.Store)]
        names += [(place, node.name) for place, node in self.each(ast.FunctionDef, ast.ClassDef)]
        for place, name in names:
            if name not in SPECIAL:
                self.assertFalse(name.startswith("_") or name in NAMES or hasattr(builtins, name), (place, name))

    def test_l15_locals_are_no_classes_or_imports(self):
        for name, tree in self.trees.items():
            taken = own_names(tree, ast.ClassDef)
            taken += [item.name for node in ast.walk(tree) if isinstance(node, ast.ImportFrom) for item in node.names]
            found = [node.arg for node in ast.walk(tree) if isinstance(node, ast.arg)]
            found += [node.id for node in ast.walk(tree) if isinstance(node, ast.Name)
                      and isinstance(node.ctx, ast.Store)]
            self.assertEqual(set(taken) & set(found), set(), name)

    def test_l5_classes(self):
        for place, node in self.each(ast.FunctionDef, ast.ClassDef):
            self.assertEqual(node.decorator_list, [], place)
        for place, node in self.each(ast.ClassDef):
            for row in node.body:
                self.assertIsInstance(row, (ast.FunctionDef, ast.Expr), place)

    def test_l18_no_name_is_a_method_and_an_attribute(self):
        methods = [name for _, node in self.each(ast.ClassDef) for name in own_names(node, ast.FunctionDef)]
        stored = [node.attr for _, node in self.each(ast.Attribute) if isinstance(node.ctx, ast.Store)]
        self.assertEqual(set(methods) & set(stored), set())
        for place, node in self.each(ast.Attribute):
            self.assertIn(node.attr, methods + stored + METHODS + SPECIAL, place)

    def test_l25_methods(self):
        methods = [name for _, node in self.each(ast.ClassDef) for name in own_names(node, ast.FunctionDef)]
        for place, node in self.each(ast.Call):
            if isinstance(node.func, ast.Attribute):
                self.assertIn(node.func.attr, methods + METHODS, place)

    def test_l6_l7_l20_barred_forms(self):
        self.assertEqual([place for place, _ in self.each(*BARRED)], [])
        for place, node in self.each(ast.Compare):
            for sign, right in zip(node.ops, node.comparators):
                if isinstance(sign, (ast.Is, ast.IsNot)):
                    self.assertIn(ast.dump(right), [ast.dump(ast.Constant(one)) for one in (None, True, False)], place)

    def test_l7_l27_plain_values(self):
        for place, node in self.each(ast.Constant):
            self.assertNotIsInstance(node.value, (float, complex), place)
            if isinstance(node.value, str):
                self.assertNotIn("%", node.value, place)

    def test_l19_errors_are_raised_by_name(self):
        for place, node in self.each(ast.Raise):
            self.assertIsInstance(node.exc, ast.Call, place)
            self.assertIsInstance(node.exc.func, ast.Name, place)
        for place, node in self.each(ast.ExceptHandler):
            self.assertIsNotNone(node.type, place)

    def test_l24_sets_stand_only_in_a_few_places(self):
        allowed = [arg for _, node in self.each(ast.Call) for arg in node.args
                   if isinstance(node.func, ast.Name) and node.func.id in ("sorted", "len")]
        allowed += [node.value for _, node in self.each(ast.Assign)]
        allowed += [right for _, node in self.each(ast.Compare) for right in [node.left, *node.comparators]]
        for place, node in self.each(ast.Call):
            if isinstance(node.func, ast.Name) and node.func.id == "set":
                self.assertIn(node, allowed, place)

    def test_l22_builtins_are_called(self):
        called = [node.func for _, node in self.each(ast.Call)]
        classes = [part for call, node in self.each(ast.Call) if getattr(node.func, "id", "") == "isinstance"
                   for part in ast.walk(node.args[1])]
        named = [part for _, node in self.each(ast.ClassDef) for part in node.bases]
        for place, node in self.each(ast.Name):
            if hasattr(builtins, node.id):
                self.assertIn(node, called + classes + named, place)

    def test_l23_what_is_iterated_at_once(self):
        allowed = [node.iter for _, node in self.each(ast.For, ast.comprehension)]
        allowed += [node.args[0] for _, node in self.each(ast.Call) if getattr(node.func, "id", "") in AT_ONCE]
        for place, node in self.each(ast.Call):
            name = getattr(node.func, "id", getattr(node.func, "attr", ""))
            if name in ("zip", "enumerate", "reversed", "range", "items", "keys", "values"):
                self.assertIn(node, allowed, place)
