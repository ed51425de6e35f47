"""The package keeps to the subset of Python: the rules that a plain reading of its files can check."""

import ast
import builtins
import re
import unittest
from pathlib import Path

PACKAGE = Path(__file__).resolve().parent.parent / "callwheel"
# L8 without chr (L27), and print, which only __main__.py may use.
BUILTINS = set(
    "len range enumerate zip min max sum abs sorted reversed int str bool bytes list tuple dict set frozenset isinstance "
    "ord repr any all divmod Exception ValueError TypeError KeyError IndexError LookupError ZeroDivisionError "
    "ArithmeticError OverflowError RuntimeError NotImplementedError AttributeError StopIteration NotImplemented".split()
)
BARRED = re.compile(
    r"\b(type|typing|typing_extensions|enum|Enum|IntEnum|StrEnum|Flag|IntFlag|Generic|Protocol|ABC|ABCMeta|namedtuple|"
    r"NamedTuple|TypedDict|TYPE_CHECKING|abstractmethod)\b|dataclass|overload|contextmanager"
)


def sources():
    return [(path.name, path.read_text("utf-8")) for path in sorted(PACKAGE.glob("*.py"))]


def nodes(kind):
    return [(name, node) for name, text in sources() for node in ast.walk(ast.parse(text)) if isinstance(node, kind)]


def bound_names():
    """All names that the package gives: assigned ones, parameters, functions and classes."""
    names = [(name, node.id) for name, node in nodes(ast.Name) if isinstance(node.ctx, ast.Store)]
    names += [(name, node.arg) for name, node in nodes(ast.arg)]
    return names + [(name, node.name) for name, node in nodes((ast.FunctionDef, ast.ClassDef))]


class Language(unittest.TestCase):
    def test_the_folder_holds_python_files_alone(self):
        for path in PACKAGE.iterdir():
            if path.name != "__pycache__":
                self.assertRegex(path.name, r"^[a-z0-9_]+\.py$")

    def test_signs_and_sizes(self):
        for name, text in sources():
            self.assertRegex(text, r"\A[ -~\n]*\Z", name)
            self.assertLessEqual(len(text.splitlines()), 400, name)
            self.assertLessEqual(max(len(line) for line in text.splitlines()), 120, name)

    def test_functions_are_short(self):
        for name, node in nodes(ast.FunctionDef):
            self.assertLessEqual(node.end_lineno - node.lineno + 1, 40, (name, node.name))

    def test_barred_words(self):
        for name, text in sources():
            self.assertIsNone(BARRED.search(text), name)

    def test_imports_from_the_package_alone(self):
        self.assertEqual(nodes(ast.Import), [])
        for name, node in nodes(ast.ImportFrom):
            self.assertEqual(node.level, 0, name)
            self.assertRegex(node.module, r"^callwheel\.[a-z0-9_]+$", name)
            defined = ast.parse((PACKAGE / (node.module.split(".")[1] + ".py")).read_text("utf-8")).body
            own = [part.name for part in defined if isinstance(part, (ast.FunctionDef, ast.ClassDef))]
            own += [part.targets[0].id for part in defined if isinstance(part, ast.Assign)]
            for wanted in node.names:
                self.assertIn(wanted.name, own, name)

    def test_allowed_builtins_alone(self):
        for name, node in nodes(ast.Name):
            if hasattr(builtins, node.id):
                self.assertIn(node.id, BUILTINS, name)

    def test_plain_names(self):
        for name, word in bound_names():
            if not (word.startswith("__") and word.endswith("__")):
                self.assertRegex(word, r"^[A-Za-z][A-Za-z0-9_]*$", name)
                self.assertFalse(hasattr(builtins, word), (name, word))

    def test_no_percent_sign_and_no_float(self):
        for name, node in nodes(ast.Constant):
            self.assertNotIsInstance(node.value, float, name)
            if isinstance(node.value, str):
                self.assertNotIn("%", node.value, name)
        self.assertEqual(nodes(ast.Div), [])


if __name__ == "__main__":
    unittest.main()
