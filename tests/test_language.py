"""The rules of LANGUAGE.md that can be seen in the files of the package one by one.

The numbers in the names of the tests are those of the rules.
"""

import ast
import pathlib
import re
import unittest

FOLDER = pathlib.Path(__file__).resolve().parent.parent / "partstold"
FILES = sorted(path for path in FOLDER.rglob("*") if path.is_file() and "__pycache__" not in path.parts)
BUILTINS = """len range enumerate zip min max sum abs sorted reversed int str bool list tuple dict set isinstance ord repr
any all divmod iter next property classmethod staticmethod super ValueError KeyError NotImplemented""".split()
BUILTIN_METHODS = """append clear copy count endswith extend find get index insert isalnum isalpha isdigit islower isspace
isupper items join keys ljust lower lstrip partition pop remove replace reverse rfind rjust rpartition rsplit rstrip setdefault
split splitlines startswith strip update upper values zfill bit_length""".split()
BARRED_WORDS = """type typing typing_extensions enum Enum IntEnum StrEnum Flag IntFlag Generic Protocol ABC ABCMeta namedtuple
NamedTuple TypedDict TYPE_CHECKING abstractmethod""".split()
BARRED_NAMES = """register mro elements open input law version_info with_traceback add_note attrgetter breakpoint builtins
compile copyright credits delattr dir eval exec exit gc getattr globals hasattr help id importlib license locals methodcaller os
quit setattr type vars sys""".split()
BARRED_NODES = (
    ast.Global, ast.AsyncFunctionDef, ast.AsyncFor, ast.AsyncWith, ast.Await, ast.Div, ast.Set, ast.GeneratorExp, ast.Import,
    ast.AnnAssign, ast.Try,
)
DOUBLE = re.compile("__(init|eq|len|contains|iter|call|repr|str|enter|exit)__")


def trees():
    """Returns pairs of a path and its parsed file."""
    return [(path, ast.parse(path.read_text())) for path in FILES]


def nodes(*kinds):
    """Returns triples of a place, a tree and a node of it, for all nodes of these kinds."""
    return [(f"{path.name}:{getattr(node, 'lineno', 0)}", tree, node)
            for path, tree in trees() for node in ast.walk(tree) if isinstance(node, kinds)]


def defined_names():
    """Returns the names that the package gives to functions, classes, methods, parameters and variables."""
    names = [(place, node.name) for place, tree, node in nodes(ast.FunctionDef, ast.ClassDef)]
    names += [(place, node.arg) for place, tree, node in nodes(ast.arg)]
    names += [(place, node.id) for place, tree, node in nodes(ast.Name) if isinstance(node.ctx, ast.Store)]
    return names + [(place, node.attr) for place, tree, node in nodes(ast.Attribute)]


class Language(unittest.TestCase):
    def test_l1_l14_files(self):
        self.assertTrue(FILES)
        for path in FILES:
            self.assertRegex(path.name, r"^(__init__|[a-z][a-z0-9]*)\.py$")
            self.assertEqual(path.parent, FOLDER)

    def test_l2_l16_imports_name_the_very_file(self):
        defined = {path.stem: {getattr(node, "name", None) or node.targets[0].id for node in tree.body
                               if isinstance(node, (ast.FunctionDef, ast.ClassDef, ast.Assign))} for path, tree in trees()}
        for place, tree, node in nodes(ast.ImportFrom):
            with self.subTest(place):
                self.assertIn(node, tree.body)
                self.assertEqual(node.level, 0)
                package, module = node.module.split(".")
                self.assertEqual(package, "partstold")
                for alias in node.names:
                    self.assertIn(alias.name, defined[module])
                    self.assertIsNone(alias.asname)

    def test_l16_the_interface_is_defined_where_it_is_listed(self):
        listed = {
            "errors": ["PartsError", "BadKind", "BadBook", "BadText", "BadBranch", "NoDeed"],
            "books": ["Book", "Kind"],
            "branches": ["size", "state_of", "states_below"],
            "known": ["levels", "lights", "ticks", "votes", "work"],
            "possible": ["idle", "least", "possible", "unlike"],
            "surroundings": ["filled", "is_paper", "paper", "table_of", "tables"],
            "deeds": ["added", "carried", "carrier", "struck"],
            "everywhere": ["alike", "parting"],
            "forks": ["filled_twice", "flickers", "fork", "rows"],
            "sure": ["is_sure", "least_with"],
            "mending": ["fewest", "settings"],
            "trees": ["Tree"],
        }
        defined = {path.stem: [node.name for node in tree.body if isinstance(node, (ast.FunctionDef, ast.ClassDef))]
                   for path, tree in trees()}
        for module, names in listed.items():
            self.assertLessEqual(set(names), set(defined[module]))

    def test_l3_module_level(self):
        for path, tree in trees():
            for node in tree.body:
                allowed = (ast.ImportFrom, ast.FunctionDef, ast.ClassDef, ast.Assign, ast.Expr)
                self.assertIsInstance(node, allowed, path.name)
                if isinstance(node, ast.Expr):
                    self.assertIs(node, tree.body[0])
                    self.assertIsInstance(node.value.value, str)

    def test_l4_l5_decorators(self):
        for place, tree, node in nodes(ast.FunctionDef, ast.ClassDef):
            for decorator in node.decorator_list:
                self.assertIn(ast.unparse(decorator), ["property", "classmethod", "staticmethod"], place)
                self.assertNotIn(node, tree.body, place)

    def test_l5_operators_and_lengths(self):
        """An operator changes nothing, and a length is that of a list or a dict."""
        for place, tree, node in nodes(ast.FunctionDef):
            if node.name in ["__contains__", "__len__", "__eq__"]:
                changes = [inner for inner in ast.walk(node) if isinstance(getattr(inner, "ctx", None), (ast.Store, ast.Del))]
                self.assertEqual(changes, [], place)
            if node.name == "__len__":
                self.assertEqual([ast.unparse(inner)[:11] for inner in node.body[1:]], ["return len("], place)

    def test_l6_l7_statements_and_expressions(self):
        self.assertEqual([place for place, tree, node in nodes(*BARRED_NODES)], [])
        for place, tree, node in nodes(ast.Constant):
            self.assertNotIsInstance(node.value, (float, complex), place)

    def test_l8_l25_what_is_called(self):
        own = {node.name for place, tree, node in nodes(ast.FunctionDef, ast.ClassDef)}
        for place, tree, node in nodes(ast.Call):
            if isinstance(node.func, ast.Name) and node.func.id != "cls":
                self.assertIn(node.func.id, own | set(BUILTINS), place)
            elif isinstance(node.func, ast.Attribute):
                self.assertIn(node.func.attr, own | set(BUILTIN_METHODS), place)

    def test_l10_size(self):
        for path in FILES:
            lines = path.read_text().split("\n")
            self.assertLessEqual(len(lines), 400, path.name)
            self.assertLessEqual(max(len(line) for line in lines), 120, path.name)
        for place, tree, node in nodes(ast.FunctionDef):
            self.assertLessEqual(node.end_lineno - node.lineno + 1, 40, place)

    def test_l14_l27_characters(self):
        for path in FILES:
            self.assertRegex(path.read_text(), r"\A[ -~\n]*\Z", path.name)
        for place, tree, node in nodes(ast.Constant):
            if isinstance(node.value, str):
                self.assertNotIn("%", node.value, place)

    def test_l12_l15_l17_names(self):
        builtin = set(BUILTINS) | {"filter", "format", "hash", "map", "object", "pow", "print", "round", "slice"}
        for place, name in defined_names():
            self.assertNotIn(name, BARRED_NAMES, place)
            self.assertNotIn(name, builtin, place)
            if not DOUBLE.fullmatch(name):
                self.assertRegex(name, "^[a-zA-Z]", place)

    def test_l17_words(self):
        barred = re.compile("|".join([rf"\b{word}\b" for word in BARRED_WORDS] + ["dataclass", "overload", "contextmanager"]))
        for path in FILES:
            self.assertIsNone(barred.search(path.read_text()), path.name)

    def test_l15_names_of_imports_and_classes_are_not_used_again(self):
        for path, tree in trees():
            taken = {alias.name for node in tree.body if isinstance(node, ast.ImportFrom) for alias in node.names}
            taken |= {node.name for node in tree.body if isinstance(node, ast.ClassDef)}
            for node in ast.walk(tree):
                name = node.arg if isinstance(node, ast.arg) else getattr(node, "id", None)
                if isinstance(node, ast.arg) or isinstance(getattr(node, "ctx", None), ast.Store):
                    self.assertNotIn(name, taken, path.name)

    def test_l18_no_name_is_a_method_and_an_attribute(self):
        methods = {node.name for place, tree, one in nodes(ast.ClassDef) for node in one.body
                   if isinstance(node, ast.FunctionDef)}
        for place, tree, node in nodes(ast.Attribute):
            if isinstance(node.ctx, ast.Store):
                self.assertNotIn(node.attr, methods, place)

    def test_l20_is(self):
        for place, tree, node in nodes(ast.Compare):
            for sign, side in zip(node.ops, node.comparators):
                if isinstance(sign, (ast.Is, ast.IsNot)):
                    self.assertIn(ast.unparse(side), ["None", "True", "False"], place)


if __name__ == "__main__":
    unittest.main()
