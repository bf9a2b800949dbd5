"""Keeps the package to those rules of the language that a file's own text shows."""

import ast
import builtins
import inspect
import pathlib
import re
import sys
import unittest
import warnings

import grown
from kindlestair.checker import holds
from kindlestair.leasts import least
from kindlestair.papers import paper_burns, paper_leads
from kindlestair.reaches import alone
from kindlestair.webs import Web

ROOT = pathlib.Path(__file__).resolve().parent.parent
PACKAGE = ROOT / "kindlestair"
FILES = sorted(PACKAGE.glob("*.py"))

INTERFACE = {
    "errors": ("HearthError", "NoStores", "NoWeb", "NoName", "NoText", "NoStanding", "NoGives", "NoSwitch", "NoRow",
               "NoStore", "NoDeed", "NoLog", "NoSay", "StateError", "Burns", "Dark", "Cold", "Wanting", "NoBack",
               "TooMany"),
    "webs": ("Web",),
    "standings": ("draws", "is_standing"),
    "reaches": ("reached", "alone"),
    "rests": ("loose", "rest", "leads", "may_burn"),
    "switches": ("switched", "gone"),
    "stairs": ("steps",),
    "ways": ("row_down", "row_to", "row_for"),
    "checker": ("holds",),
    "leasts": ("least",),
    "gusts": ("freeing", "sparks"),
    "houses": ("House", "replayed"),
    "webtexts": ("read_web",),
    "small": ("rests", "lot", "fewest"),
    "papers": ("paper_leads", "paper_burns", "paper_goes", "paper_least"),
    "desk": ("Desk",),
}
METHODS = {
    "Web": ("names", "hungers", "feeders", "above", "built", "__eq__", "__len__", "__str__", "__repr__"),
    "House": ("do", "do_all", "back", "web", "gives", "burning", "spare", "rest", "may_burn", "log", "__eq__",
              "__len__", "__str__", "__repr__"),
    "Desk": ("say",),
}
BUILTINS = set(
    "len range enumerate zip min max sum abs sorted reversed int str bool bytes list tuple dict set frozenset "
    "isinstance ord repr any all divmod iter next Exception ValueError TypeError KeyError IndexError LookupError "
    "ZeroDivisionError ArithmeticError OverflowError RuntimeError NotImplementedError AttributeError StopIteration "
    "NotImplemented super property staticmethod classmethod object".split())
BARRED_WORDS = re.compile(
    r"\b(type|typing|typing_extensions|enum|Enum|IntEnum|StrEnum|Flag|IntFlag|Generic|Protocol|ABC|ABCMeta|namedtuple"
    r"|NamedTuple|TypedDict|TYPE_CHECKING|abstractmethod)\b|dataclass|overload|contextmanager")
BARRED_NAMES = set(
    "register mro elements open input law version_info with_traceback add_note format format_map eval exec getattr "
    "setattr hasattr delattr globals locals vars dir id compile".split())
DOUBLE = set(
    "__init__ __eq__ __repr__ __str__ __len__ __enter__ __exit__ __call__ __iter__ __lt__ __le__ __gt__ __ge__ "
    "__ne__ __bool__ __contains__ __getitem__ __setitem__".split())
BUILTIN_METHODS = set(
    "append clear copy count endswith extend find get index insert isalnum isalpha isdigit islower isspace isupper "
    "items join keys ljust lower lstrip partition pop remove replace reverse rfind rjust rpartition rsplit rstrip "
    "setdefault split splitlines startswith strip update upper values zfill bit_length".split())
BARRED_NODES = (ast.Global, ast.AsyncFunctionDef, ast.Await, ast.Div, ast.Import)


def text_of(path):
    return path.read_bytes().decode("utf-8")


def trees():
    return [(path, ast.parse(text_of(path))) for path in FILES]


def nodes(kinds):
    return [(path, node) for path, tree in trees() for node in ast.walk(tree) if isinstance(node, kinds)]


def defined_in(tree):
    names = [node.name for node in tree.body if isinstance(node, (ast.FunctionDef, ast.ClassDef))]
    for node in tree.body:
        if isinstance(node, ast.Assign):
            names += [target.id for target in node.targets]
    return names


class Language(unittest.TestCase):
    def test_files(self):
        self.assertIn(PACKAGE / "__init__.py", FILES)
        for path in PACKAGE.iterdir():
            if path.name != "__pycache__":
                self.assertRegex(path.name, r"^([a-z][a-z0-9_]*|__init__)\.py$")

    def test_signs_and_sizes(self):
        for path in FILES:
            text = text_of(path)
            self.assertRegex(text, r"\A[ -~\n]*\Z", path.name)
            self.assertLessEqual(len(text.splitlines()), 399, path.name)
            self.assertLessEqual(max(map(len, text.splitlines())), 120, path.name)
        for path, node in nodes(ast.FunctionDef):
            self.assertLessEqual(node.end_lineno - node.lineno + 1, 40, (path.name, node.name))

    def test_no_warnings(self):
        with warnings.catch_warnings():
            warnings.simplefilter("error")
            for path in FILES:
                compile(text_of(path), str(path), "exec")

    def test_imports(self):
        defined = {path.stem: defined_in(tree) for path, tree in trees()}
        for path, node in nodes(ast.ImportFrom):
            folder, _, module = node.module.partition(".")
            self.assertEqual((node.level, folder), (0, "kindlestair"), path.name)
            for alias in node.names:
                self.assertIn(alias.name, defined[module], path.name)

    def test_no_two_files_import_from_each_other(self):
        behind = {path.stem: set() for path in FILES}
        for path, node in nodes(ast.ImportFrom):
            behind[path.stem].add(node.module.partition(".")[2])
        while behind:
            ready = [stem for stem, modules in behind.items() if not modules & set(behind)]
            self.assertTrue(ready, behind)
            for stem in ready:
                del behind[stem]

    def test_barred_words(self):
        for path in FILES:
            self.assertIsNone(BARRED_WORDS.search(text_of(path)), path.name)

    def test_names(self):
        for path, node in nodes(ast.Name):
            self.assertFalse(node.id.startswith("_"), (path.name, node.id))
            self.assertFalse(node.id in dir(builtins) and node.id not in BUILTINS, (path.name, node.id))
            self.assertFalse(isinstance(node.ctx, ast.Store) and node.id in dir(builtins), (path.name, node.id))
            self.assertNotIn(node.id, BARRED_NAMES, path.name)
        for path, node in nodes((ast.FunctionDef, ast.ClassDef)):
            self.assertTrue(not node.name.startswith("_") or node.name in DOUBLE, (path.name, node.name))
            self.assertNotIn(node.name, dir(builtins), path.name)
        for path, node in nodes(ast.arg):
            self.assertFalse(node.arg.startswith("_") or node.arg in dir(builtins), (path.name, node.arg))
        for path, node in nodes(ast.Attribute):
            self.assertTrue(not node.attr.startswith("_") or node.attr == "__init__", (path.name, node.attr))
            self.assertNotIn(node.attr, BARRED_NAMES, path.name)

    def test_no_name_is_both_a_method_and_an_attribute(self):
        methods = {row.name for _, node in nodes(ast.ClassDef) for row in node.body if isinstance(row, ast.FunctionDef)}
        attributes = {node.attr for _, node in nodes(ast.Attribute) if isinstance(node.ctx, ast.Store)}
        self.assertEqual(methods & attributes, set())

    def test_no_method_and_attribute_of_no_class(self):
        own = {row.name for _, node in nodes(ast.ClassDef) for row in node.body if isinstance(row, ast.FunctionDef)}
        own |= {node.attr for _, node in nodes(ast.Attribute) if isinstance(node.ctx, ast.Store)}
        for path, node in nodes(ast.Attribute):
            self.assertIn(node.attr, own | BUILTIN_METHODS, path.name)

    def test_no_local_name_is_that_of_a_class_or_an_import(self):
        for path, tree in trees():
            taken = {alias.name for node in tree.body if isinstance(node, ast.ImportFrom) for alias in node.names}
            taken |= {node.name for node in tree.body if isinstance(node, ast.ClassDef)}
            for node in ast.walk(tree):
                if isinstance(node, ast.FunctionDef):
                    names = {part.arg for part in ast.walk(node.args) if isinstance(part, ast.arg)}
                    names |= {part.id for part in ast.walk(node)
                              if isinstance(part, ast.Name) and isinstance(part.ctx, ast.Store)}
                    self.assertEqual(names & taken, set(), (path.name, node.name))

    def test_lists_and_dicts_at_module_level_are_only_read(self):
        for path, tree in trees():
            tables = {target.id for node in tree.body if isinstance(node, ast.Assign)
                      if isinstance(node.value, (ast.List, ast.Dict)) for target in node.targets}
            free = {id(node.value) for node in ast.walk(tree) if isinstance(node, ast.Subscript)}
            free |= {id(part) for node in ast.walk(tree) if isinstance(node, ast.Compare) for part in node.comparators}
            for node in ast.walk(tree):
                if isinstance(node, ast.Name) and node.id in tables and isinstance(node.ctx, ast.Load):
                    self.assertIn(id(node), free, (path.name, node.id))

    def test_barred_forms(self):
        self.assertEqual([(path.name, node) for path, node in nodes(BARRED_NODES)], [])
        for path, node in nodes(ast.Constant):
            self.assertNotIsInstance(node.value, (float, complex), path.name)
            self.assertFalse(isinstance(node.value, str) and chr(37) in node.value, path.name)
        for path, node in nodes(ast.Compare):
            for sign, right in zip(node.ops, node.comparators):
                if isinstance(sign, (ast.Is, ast.IsNot)):
                    self.assertIn(getattr(right, "value", 0), (None, True, False), path.name)

    def test_any_all_and_their_like_take_a_list(self):
        for path, node in nodes(ast.Call):
            if isinstance(node.func, ast.Name) and node.func.id in ("any", "all", "min", "max", "sum", "sorted"):
                self.assertNotIsInstance(node.args[0], ast.GeneratorExp, path.name)

    def test_raise_makes_its_error_on_the_spot(self):
        for path, node in nodes(ast.Raise):
            self.assertIsInstance(node.exc, ast.Call, path.name)
            self.assertIn(node.exc.func.id, INTERFACE["errors"], path.name)

    def test_the_interface_is_defined_in_its_files(self):
        for module, names in INTERFACE.items():
            defined = defined_in(ast.parse(text_of(PACKAGE / f"{module}.py")))
            for name in names:
                self.assertIn(name, defined)

    def test_the_methods_stand_in_the_class_itself(self):
        classes = {node.name: node for _, node in nodes(ast.ClassDef)}
        for word, methods in METHODS.items():
            self.assertLessEqual(set(methods), {row.name for row in classes[word].body if hasattr(row, "name")})


class Depth(unittest.TestCase):
    def test_no_deep_recursion(self):
        stair = grown.stair([(1,)] * 16)
        full = tuple([(name, (1,), tuple(grown.LETTERS[:at])) for at, name in enumerate(grown.LETTERS)])
        turns = tuple([(name, (at % 2, (at + 1) % 2), feeders) for at, (name, _, feeders) in enumerate(stair)])
        ahead = sys.getrecursionlimit()
        sys.setrecursionlimit(len(inspect.stack()) + 250)
        try:
            for stores, hearths in ((1, stair), (1, full), (2, turns)):
                for by in (1, 2, 3, 4, 5, 9, 60):
                    self.ask(Web(stores, hearths), (by,) * stores)
        finally:
            sys.setrecursionlimit(ahead)

    def ask(self, web, gives):
        alone(web, gives)
        least(web, gives, (), ("p",), 0)
        self.assertIs(holds(*paper_leads(web, gives, ("p",), ())), True)
        self.assertIs(holds(*paper_burns(web, gives, (), "p")), True)


if __name__ == "__main__":
    unittest.main()
