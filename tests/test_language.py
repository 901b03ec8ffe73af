"""The files of the package keep to the plain part of Python that they are written in.

Checked is what can be seen file by file: sizes, signs, words, imports, statements, builtins and methods.
"""

import ast
import builtins
import re
import unittest
from pathlib import Path

PACKAGE = Path(__file__).resolve().parent.parent / "huelists"
FILES = sorted(PACKAGE.rglob("*.py"))
BUILTINS = set(
    "len range enumerate zip min max sum abs sorted reversed int str bool bytes list tuple dict set frozenset"
    " isinstance ord repr any all divmod iter next super property staticmethod classmethod"
    " Exception ValueError TypeError KeyError IndexError LookupError ZeroDivisionError ArithmeticError"
    " OverflowError RuntimeError NotImplementedError AttributeError StopIteration NotImplemented".split()
)
METHODS = set(
    "append clear copy count endswith extend find get index insert isalnum isalpha isdigit islower isspace isupper"
    " items join keys ljust lower lstrip partition pop remove replace reverse rfind rjust rpartition rsplit rstrip"
    " setdefault split splitlines startswith strip update upper values zfill bit_length sort add discard title"
    " capitalize swapcase casefold center expandtabs removeprefix removesuffix rindex isascii isdecimal isnumeric"
    " istitle isidentifier isprintable __init__".split()
)
WORDS_BARRED = re.compile(
    r"\b(type|typing|typing_extensions|enum|Enum|IntEnum|StrEnum|Flag|IntFlag|Generic|Protocol|ABC|ABCMeta|namedtuple"
    r"|NamedTuple|TypedDict|TYPE_CHECKING|abstractmethod)\b|dataclass|overload|contextmanager"
)
NODES_BARRED = (ast.Global, ast.Import, ast.AsyncFunctionDef, ast.AsyncFor, ast.AsyncWith, ast.Await, ast.Div)
MODULE_LEVEL = (ast.Expr, ast.ImportFrom, ast.FunctionDef, ast.ClassDef, ast.Assign)
FUNCTIONS = (ast.FunctionDef, ast.Lambda)


def bound_names(tree):
    """Each name that the file binds somewhere."""
    names = [node.id for node in ast.walk(tree) if isinstance(node, ast.Name) and isinstance(node.ctx, ast.Store)]
    names += [node.name for node in ast.walk(tree) if isinstance(node, (ast.FunctionDef, ast.ClassDef))]
    names += [node.arg for node in ast.walk(tree) if isinstance(node, ast.arg)]
    names += [node.asname or node.name for node in ast.walk(tree) if isinstance(node, ast.alias)]
    return names


def defined_names(tree):
    """Each name that the file defines at its module level, imports left out."""
    names = [node.name for node in tree.body if isinstance(node, (ast.FunctionDef, ast.ClassDef))]
    return names + [target.id for node in tree.body if isinstance(node, ast.Assign) for target in node.targets]


class Language(unittest.TestCase):
    def trees(self):
        return [(path, ast.parse(path.read_text(encoding="ascii"))) for path in FILES]

    def test_folder(self):
        self.assertTrue((PACKAGE / "__init__.py").is_file())
        for path in PACKAGE.rglob("*"):
            if "__pycache__" not in path.parts:
                self.assertTrue(path.is_dir() or path.suffix == ".py", path)
                self.assertRegex(path.name, r"^[a-z0-9_]+(\.py)?$")

    def test_sizes_and_signs(self):
        for path in FILES:
            text = path.read_bytes().decode("ascii")
            self.assertRegex(text, r"\A[ -~\n]*\Z")
            self.assertLessEqual(text.count("\n"), 399)
            self.assertLessEqual(max(len(line) for line in text.split("\n")), 120)
            self.assertIsNone(WORDS_BARRED.search(text), path)

    def test_length_of_functions(self):
        for path, tree in self.trees():
            for node in ast.walk(tree):
                if isinstance(node, ast.FunctionDef):
                    self.assertLessEqual(node.end_lineno - node.lineno + 1, 40, node.name)

    def test_module_level(self):
        for path, tree in self.trees():
            for node in tree.body:
                self.assertIsInstance(node, MODULE_LEVEL)
                if isinstance(node, ast.Expr):
                    self.assertIsInstance(node.value, ast.Constant)
            bound = defined_names(tree)
            bound += [alias.name for node in tree.body if isinstance(node, ast.ImportFrom) for alias in node.names]
            self.assertEqual(len(bound), len(set(bound)))

    def test_imports(self):
        for path, tree in self.trees():
            for node in ast.walk(tree):
                if isinstance(node, ast.ImportFrom):
                    self.assertEqual(node.level, 0)
                    self.assertRegex(node.module, r"^huelists\.[a-z_]+$")
                    source = ast.parse((PACKAGE / (node.module.split(".")[1] + ".py")).read_text())
                    defined = defined_names(source)
                    for alias in node.names:
                        self.assertIn(alias.name, defined)

    def test_nodes(self):
        for path, tree in self.trees():
            for node in ast.walk(tree):
                self.assertNotIsInstance(node, NODES_BARRED)
                if isinstance(node, ast.Constant):
                    self.assertNotIsInstance(node.value, (float, complex))
                    self.assertNotIn("%", str(node.value))
                if isinstance(node, ast.Compare):
                    for sign, other in zip(node.ops, node.comparators):
                        if isinstance(sign, (ast.Is, ast.IsNot)):
                            self.assertIsInstance(other, ast.Constant)

    def test_names(self):
        for path, tree in self.trees():
            for name in bound_names(tree):
                if name != "__init__":
                    self.assertFalse(hasattr(builtins, name), (path.name, name))
                    self.assertRegex(name, r"^[A-Za-z][A-Za-z0-9_]*$")

    def test_no_local_name_of_an_import_or_a_class(self):
        for path, tree in self.trees():
            outer = {alias.name for node in tree.body if isinstance(node, ast.ImportFrom) for alias in node.names}
            outer |= {node.name for node in tree.body if isinstance(node, ast.ClassDef)}
            inner = {node.arg for node in ast.walk(tree) if isinstance(node, ast.arg)}
            inner |= {node.id for node in ast.walk(tree)
                      if isinstance(node, ast.Name) and isinstance(node.ctx, ast.Store)}
            self.assertEqual(outer & inner, set(), path.name)

    def test_builtins_and_methods(self):
        for path, tree in self.trees():
            bound = set(bound_names(tree))
            for node in ast.walk(tree):
                if isinstance(node, ast.Name) and node.id not in bound:
                    self.assertIn(node.id, BUILTINS)
                if isinstance(node, ast.Call) and isinstance(node.func, ast.Attribute):
                    self.assertIn(node.func.attr, METHODS | bound)

    def test_handlers_name_their_errors(self):
        for path, tree in self.trees():
            for node in ast.walk(tree):
                if isinstance(node, ast.ExceptHandler):
                    self.assertIsNotNone(node.type)
                if isinstance(node, FUNCTIONS):
                    self.assertEqual(node.args.posonlyargs, [])

    def test_no_rounds_of_imports(self):
        needs = {}
        for path, tree in self.trees():
            froms = [node.module.split(".")[1] for node in ast.walk(tree) if isinstance(node, ast.ImportFrom)]
            needs[path.stem] = set(froms)
        while needs:
            free = [name for name in needs if not needs[name] & set(needs)]
            self.assertTrue(free, needs)
            for name in free:
                del needs[name]


class Interface(unittest.TestCase):
    """Each name of the interface is defined in the file under which it is listed, with these arguments."""

    LISTED = {
        "webs": {
            "is_web": ["thing"], "are_lists": ["thing", "web"], "are_sizes": ["thing", "web"],
            "is_choice": ["thing", "web", "lists"], "near": ["web", "place"], "sizes_of": ["web", "lists"],
        },
        "texts": {"show": ["web", "lists"], "read": ["text"]},
        "choices": {
            "first_choice": ["web", "lists"], "choices_many": ["web", "lists"],
            "choice_at": ["web", "lists", "number"], "number_of": ["web", "lists", "choice"],
            "begun_many": ["web", "lists", "begun"], "is_none_paper": ["thing", "web", "lists"],
            "none_paper": ["web", "lists"],
        },
        "always": {
            "always": ["web", "sizes"], "is_bar": ["thing", "web", "sizes"], "bar_for": ["web", "sizes"],
            "least_length": ["web"], "hues_many": ["web"],
        },
        "orders": {
            "is_order": ["thing", "web", "sizes"], "order_for": ["web", "sizes"], "core": ["web", "sizes"],
            "choice_by": ["web", "lists", "order"], "narrowness": ["web"],
        },
        "terms": {
            "terms": ["web"], "term": ["web", "powers"], "is_term_paper": ["thing", "web", "sizes"],
            "term_for": ["web", "sizes"], "runs_many": ["web", "powers"],
        },
        "tielists": {
            "are_tie_lists": ["thing", "web"], "is_tie_choice": ["thing", "web", "lists"],
            "first_tie_choice": ["web", "lists"], "tie_choices_many": ["web", "lists"], "width": ["web"],
            "first_part": ["web"],
        },
        "stable": {
            "is_stable": ["thing", "web", "ranks", "some"], "stable_ones": ["web", "ranks", "some"],
            "long_choice": ["web", "lists"],
        },
        "counts": {"powers_of": ["web"], "count_at": ["web", "q"], "no_rounds_many": ["web"]},
        "fewest": {"fewest": ["web", "size"], "fewest_lists": ["web", "size"]},
        "changes": {
            "taken": ["web", "lists", "place", "hue"], "named": ["web", "lists", "names"], "pieces": ["web"],
            "without": ["web", "lists", "place"], "sure": ["web", "lists"],
        },
        "blocks": {
            "blocks": ["web"], "plain_blocks": ["web"], "near_sizes": ["web"], "always_near": ["web"],
            "near_bar": ["web"],
        },
    }

    def test_defined_where_listed(self):
        for name, functions in self.LISTED.items():
            tree = ast.parse((PACKAGE / f"{name}.py").read_text())
            found = {
                node.name: [arg.arg for arg in node.args.args]
                for node in tree.body if isinstance(node, ast.FunctionDef)
            }
            for function, arguments in functions.items():
                self.assertEqual(found[function], arguments)

    def test_desk_has_its_method_in_its_body(self):
        tree = ast.parse((PACKAGE / "desk.py").read_text())
        desk = [node for node in tree.body if isinstance(node, ast.ClassDef) and node.name == "Desk"][0]
        found = {
            node.name: [arg.arg for arg in node.args.args] for node in desk.body if isinstance(node, ast.FunctionDef)
        }
        self.assertEqual(found["say"], ["self", "line"])
        self.assertEqual(found["__init__"], ["self"])


if __name__ == "__main__":
    unittest.main()
