"""Those rules of the language subset that can be looked up in the files of the package."""

import ast
import builtins
import inspect
import re
import unittest
from pathlib import Path

from dialdoubt import clocks, counts, keeping, other, readings, rests, rivals, texts, waits, whole
from dialdoubt.desk import Desk

FOLDER = Path(__file__).resolve().parent.parent / "dialdoubt"
FILES = sorted(FOLDER.glob("*.py"))

ALLOWED_BUILTINS = set("""
    len range enumerate zip min max sum abs sorted reversed int str bool bytes list tuple dict set frozenset isinstance
    ord repr any all divmod super Exception ValueError TypeError KeyError IndexError LookupError ZeroDivisionError
    ArithmeticError OverflowError RuntimeError NotImplementedError AttributeError StopIteration NotImplemented
""".split())
BARRED_WORDS = set("""
    type typing typing_extensions enum Enum IntEnum StrEnum Flag IntFlag Generic Protocol ABC ABCMeta namedtuple
    NamedTuple TypedDict TYPE_CHECKING abstractmethod
""".split())
BARRED_PARTS = ("dataclass", "overload", "contextmanager")
BARRED_NAMES = set("""
    register mro elements open input version_info with_traceback add_note attrgetter breakpoint builtins compile
    copyright credits delattr dir eval exec exit gc getattr globals hasattr help id importlib license locals
    methodcaller os quit setattr type vars sys
""".split())
BARRED_NODES = (
    ast.Global, ast.AsyncFunctionDef, ast.AsyncFor, ast.AsyncWith, ast.Await, ast.Import, ast.Div,
)

INTERFACE = {
    clocks: {
        "made_clock": "many hands blank mirror", "mark_of": "clock hand tick", "picture_of": "clock tick",
        "same_picture": "clock one other", "kept_hands": "clock some", "painted_hands": "clock some",
        "with_hand": "clock hand gear start",
    },
    rests: {
        "meeting_of": "many factor due", "joined_of": "one other", "weights_of": "many numbers",
        "count_below": "stretch bound",
    },
    readings: {
        "readings_of": "clock", "rows_of": "clock reading", "is_taken": "clock reading tick other",
        "coarse_step": "clock",
    },
    rivals: {
        "rivals_of": "clock tick", "tick_paper": "clock tick", "tick_paper_right": "clock tick told",
        "read_picture": "clock picture",
    },
    counts: {
        "clear_many": "clock", "clear_below": "clock bound", "clear_by": "clock number",
        "doubtful_by": "clock number", "number_of": "clock tick", "next_clear": "clock tick",
    },
    whole: {"whole_paper": "clock", "whole_right": "clock told"},
    waits: {"two_looks": "clock tick wait", "least_wait": "clock tick", "wait_right": "clock tick told"},
    keeping: {
        "fewest_kept": "clock", "fewest_painted": "clock", "kept_right": "clock told", "painted_right": "clock told",
    },
    other: {
        "other_gear": "clock hand tries", "other_start": "clock hand tries",
        "other_right": "clock kind hand tries told",
    },
    texts: {"clock_text": "clock", "read_clock": "text"},
}
# How a list or dict at module level may be used: read, but never passed on.
READ_METHODS = ("get", "items", "keys", "values", "index", "count")
READ_CALLS = ("len", "sorted", "list", "tuple", "dict", "enumerate", "zip")


def nodes_of(file):
    return list(ast.walk(ast.parse(file.read_text())))


def module_tables(tree):
    """The names of lists and dicts at module level."""
    return [
        target.id
        for node in tree.body if isinstance(node, ast.Assign) and isinstance(node.value, (ast.List, ast.Dict))
        for target in node.targets
    ]


def is_read(parent, name):
    """Whether a name is just read in the node around it, as rule L15 lets a table be read."""
    if isinstance(parent, ast.Subscript):
        return parent.value is name and isinstance(parent.ctx, ast.Load)
    if isinstance(parent, ast.Attribute):
        return parent.attr in READ_METHODS
    if isinstance(parent, (ast.For, ast.comprehension)):
        return parent.iter is name
    if isinstance(parent, ast.Call):
        return isinstance(parent.func, ast.Name) and parent.func.id in READ_CALLS
    return isinstance(parent, ast.Compare)


def bound_names(node):
    """The names that a node gives a meaning to."""
    if isinstance(node, ast.Name) and not isinstance(node.ctx, ast.Load):
        return [node.id]
    if isinstance(node, ast.arg):
        return [node.arg]
    if isinstance(node, (ast.FunctionDef, ast.ClassDef)):
        return [node.name]
    if isinstance(node, ast.Attribute):
        return [node.attr]
    return []


def top_names(node):
    """The names that a statement at module level gives a meaning to, but for imports."""
    if isinstance(node, ast.Assign):
        return [target.id for target in node.targets]
    return [node.name] if isinstance(node, (ast.FunctionDef, ast.ClassDef)) else []


class Form(unittest.TestCase):
    def test_folder_holds_files_of_the_package_only(self):
        found = [path.name for path in FOLDER.iterdir() if path.name != "__pycache__"]
        self.assertIn("__init__.py", found)
        for name in found:
            self.assertRegex(name, r"\A[a-z0-9_]+\.py\Z")

    def test_lines_and_signs(self):
        for file in FILES:
            lines = file.read_text().split("\n")
            self.assertLessEqual(len(lines), 400, file)
            for line in lines:
                self.assertLessEqual(len(line), 120, (file, line))
                self.assertRegex(line, r"\A[ -~]*\Z", file)

    def test_words(self):
        for file in FILES:
            text = file.read_text()
            self.assertEqual(set(re.findall(r"\w+", text)) & BARRED_WORDS, set(), file)
            for part in BARRED_PARTS:
                self.assertNotIn(part, text, file)

    def test_functions_are_short(self):
        for file in FILES:
            for node in nodes_of(file):
                if isinstance(node, ast.FunctionDef):
                    self.assertLessEqual(node.end_lineno - node.lineno + 1, 40, (file, node.name))

    def test_imports_are_of_the_package(self):
        for file in FILES:
            for node in nodes_of(file):
                if isinstance(node, ast.ImportFrom):
                    self.assertEqual(node.level, 0, file)
                    self.assertRegex(node.module, r"\Adialdoubt\.", file)
                    self.assertNotIn("*", [name.name for name in node.names], file)

    def test_statements_and_values(self):
        for file in FILES:
            for node in nodes_of(file):
                self.assertNotIsInstance(node, BARRED_NODES, (file, getattr(node, "lineno", None)))
                if isinstance(node, ast.Constant):
                    self.assertNotIsInstance(node.value, (float, complex), file)
                    self.assertFalse(isinstance(node.value, str) and "%" in node.value, (file, node.lineno))

    def test_names(self):
        others = set(dir(builtins)) - ALLOWED_BUILTINS
        for file in FILES:
            for node in nodes_of(file):
                for name in bound_names(node):
                    self.assertNotIn(name, BARRED_NAMES, (file, node.lineno))
                    if not isinstance(node, ast.Attribute):
                        self.assertNotIn(name, set(dir(builtins)) - {"__init__"}, (file, node.lineno))
                    self.assertTrue(name == "__init__" or not name.startswith("_"), (file, name))
                if isinstance(node, ast.Name):
                    self.assertNotIn(node.id, others, (file, node.lineno))

    def test_tables_are_only_read(self):
        for file in FILES:
            tree = ast.parse(file.read_text())
            tables = module_tables(tree)
            for parent in ast.walk(tree):
                for node in ast.iter_child_nodes(parent):
                    if isinstance(node, ast.Name) and node.id in tables and isinstance(node.ctx, ast.Load):
                        self.assertTrue(is_read(parent, node), (file, node.lineno))

    def test_names_are_imported_from_where_they_stand_and_mean_nothing_else(self):
        for file in FILES:
            nodes = nodes_of(file)
            imports = [node for node in nodes if isinstance(node, ast.ImportFrom)]
            names = [alias.name for node in imports for alias in node.names]
            self.assertEqual(len(set(names)), len(names), file)
            for node in imports:
                body = ast.parse((FOLDER / (node.module.split(".")[1] + ".py")).read_text()).body
                there = [name for part in body for name in top_names(part)]
                for alias in node.names:
                    self.assertIsNone(alias.asname, file)
                    self.assertIn(alias.name, there, file)
            for node in nodes:
                if not isinstance(node, ast.Attribute):
                    self.assertEqual(set(bound_names(node)) & set(names), set(), (file, getattr(node, "lineno", 0)))
            loaded = [node.id for node in nodes if isinstance(node, ast.Name)]
            self.assertEqual([name for name in names if name not in loaded], [], file)

    def test_interface(self):
        for module, functions in INTERFACE.items():
            for name, parameters in functions.items():
                told = inspect.signature(getattr(module, name)).parameters
                self.assertEqual(list(told), parameters.split(), name)
        for name, parameters in (("__init__", "self text"), ("say", "self row")):
            self.assertEqual(list(inspect.signature(vars(Desk)[name]).parameters), parameters.split(), name)


if __name__ == "__main__":
    unittest.main()
