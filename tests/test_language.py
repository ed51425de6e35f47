"""The package keeps to the subset of Python: the rules that a plain reading of its files can check."""

import ast
import builtins
import re
import unittest
from pathlib import Path

PACKAGE = Path(__file__).resolve().parent.parent / "callwheel"
# L8 without chr (L27), and print, which only __main__.py may use.
BUILTINS = set(
    "len range enumerate zip min max sum abs sorted reversed int str bool bytes list tuple dict set frozenset isinstance "
    "ord repr any all divmod Exception ValueError TypeError KeyError IndexError LookupError ZeroDivisionError "
    "ArithmeticError OverflowError RuntimeError NotImplementedError AttributeError StopIteration NotImplemented".split()
)
BARRED = re.compile(
    r"\b(type|typing|typing_extensions|enum|Enum|IntEnum|StrEnum|Flag|IntFlag|Generic|Protocol|ABC|ABCMeta|namedtuple|"
    r"NamedTuple|TypedDict|TYPE_CHECKING|abstractmethod)\b|dataclass|overload|contextmanager"
)

# L25, both lists; those of bytes are not used.
METHODS = set(
    "append clear copy count endswith extend find get index insert isalnum isalpha isdigit islower isspace isupper items "
    "join keys ljust lower lstrip partition pop remove replace reverse rfind rjust rpartition rsplit rstrip setdefault "
    "split splitlines startswith strip update upper values zfill bit_length title capitalize swapcase casefold center "
    "expandtabs removeprefix removesuffix rindex isascii isdecimal isnumeric istitle isidentifier isprintable".split()
)
# What each class of the interface has; each stands in the class itself.
LINE_METHODS = "pull wind cut mend join part clear tick clock box near_tape far_tape cuts is_joined"
WATCH_METHODS = "back crew calls"
INTERFACE = {
    "Line": LINE_METHODS,
    "Watch": WATCH_METHODS + " heard",
    "Office": LINE_METHODS + " " + WATCH_METHODS + " book",
    "Desk": "say",
}


def sources():
    return [(path.name, path.read_text("utf-8")) for path in sorted(PACKAGE.glob("*.py"))]


def nodes(kind):
    return [(name, node) for name, text in sources() for node in ast.walk(ast.parse(text)) if isinstance(node, kind)]


def bound_names():
    """All names that the package gives: assigned ones, parameters, functions and classes."""
    names = [(name, node.id) for name, node in nodes(ast.Name) if isinstance(node.ctx, ast.Store)]
    names += [(name, node.arg) for name, node in nodes(ast.arg)]
    return names + [(name, node.name) for name, node in nodes((ast.FunctionDef, ast.ClassDef))]


def own_methods():
    """For each class of the package the names of its methods."""
    return {
        node.name: [part.name for part in node.body if isinstance(part, ast.FunctionDef)] for _, node in nodes(ast.ClassDef)
    }


def own_attributes():
    """All attributes that are assigned somewhere."""
    return {node.attr for _, node in nodes(ast.Attribute) if isinstance(node.ctx, ast.Store)}


def imports_of(text):
    """The modules of the package that a file imports from."""
    return [node.module.split(".")[1] for node in ast.walk(ast.parse(text)) if isinstance(node, ast.ImportFrom)]


class Language(unittest.TestCase):
    def test_the_folder_holds_python_files_alone(self):
        for path in PACKAGE.iterdir():
            if path.name != "__pycache__":
                self.assertRegex(path.name, r"^[a-z0-9_]+\.py$")

    def test_signs_and_sizes(self):
        for name, text in sources():
            self.assertRegex(text, r"\A[ -~\n]*\Z", name)
            self.assertLessEqual(len(text.splitlines()), 400, name)
            self.assertLessEqual(max(len(line) for line in text.splitlines()), 120, name)

    def test_functions_are_short(self):
        for name, node in nodes(ast.FunctionDef):
            self.assertLessEqual(node.end_lineno - node.lineno + 1, 40, (name, node.name))

    def test_barred_words(self):
        for name, text in sources():
            self.assertIsNone(BARRED.search(text), name)

    def test_imports_from_the_package_alone(self):
        self.assertEqual(nodes(ast.Import), [])
        for name, node in nodes(ast.ImportFrom):
            self.assertEqual(node.level, 0, name)
            self.assertRegex(node.module, r"^callwheel\.[a-z0-9_]+$", name)
            defined = ast.parse((PACKAGE / (node.module.split(".")[1] + ".py")).read_text("utf-8")).body
            own = [part.name for part in defined if isinstance(part, (ast.FunctionDef, ast.ClassDef))]
            own += [part.targets[0].id for part in defined if isinstance(part, ast.Assign)]
            for wanted in node.names:
                self.assertIn(wanted.name, own, name)

    def test_allowed_builtins_alone(self):
        for name, node in nodes(ast.Name):
            if hasattr(builtins, node.id):
                self.assertIn(node.id, BUILTINS, name)

    def test_plain_names(self):
        for name, word in bound_names():
            if not (word.startswith("__") and word.endswith("__")):
                self.assertRegex(word, r"^[A-Za-z][A-Za-z0-9_]*$", name)
                self.assertFalse(hasattr(builtins, word), (name, word))

    def test_no_percent_sign_and_no_float(self):
        for name, node in nodes(ast.Constant):
            self.assertNotIsInstance(node.value, float, name)
            if isinstance(node.value, str):
                self.assertNotIn("%", node.value, name)
        self.assertEqual(nodes(ast.Div), [])

    def test_is_stands_beside_none_and_truths_alone(self):
        for name, node in nodes(ast.Compare):
            for sign, other in zip(node.ops, node.comparators):
                if isinstance(sign, (ast.Is, ast.IsNot)):
                    self.assertIsInstance(other, ast.Constant, (name, node.lineno))

    def test_names_are_bound_once_in_a_file(self):
        for name, text in sources():
            bound = []
            for part in ast.parse(text).body:
                if isinstance(part, ast.ImportFrom):
                    bound += [wanted.name for wanted in part.names]
                elif isinstance(part, ast.Assign):
                    bound += [target.id for target in part.targets]
                elif isinstance(part, (ast.FunctionDef, ast.ClassDef)):
                    bound.append(part.name)
            self.assertEqual(len(set(bound)), len(bound), name)

    def test_no_local_name_is_one_of_an_import_or_a_class(self):
        for name, text in sources():
            tree = ast.parse(text)
            taken = {wanted.name for node in ast.walk(tree) if isinstance(node, ast.ImportFrom) for wanted in node.names}
            taken |= {node.name for node in tree.body if isinstance(node, ast.ClassDef)}
            for node in ast.walk(tree):
                if isinstance(node, ast.Name) and isinstance(node.ctx, ast.Store):
                    self.assertNotIn(node.id, taken, (name, node.lineno))
                if isinstance(node, ast.arg):
                    self.assertNotIn(node.arg, taken, (name, node.lineno))

    def test_each_import_is_used(self):
        for name, text in sources():
            parts = list(ast.walk(ast.parse(text)))
            used = {part.id for part in parts if isinstance(part, ast.Name)}
            for part in parts:
                if isinstance(part, ast.ImportFrom):
                    self.assertEqual({wanted.name for wanted in part.names} - used, set(), name)

    def test_no_two_files_import_from_each_other(self):
        left = {name[:-3]: imports_of(text) for name, text in sources()}
        while left:
            free = [name for name, wanted in left.items() if not any(other in left for other in wanted)]
            self.assertTrue(free, left)
            for name in free:
                del left[name]

    def test_methods_and_attributes(self):
        methods = {name for names in own_methods().values() for name in names}
        attributes = own_attributes()
        self.assertEqual(methods & attributes, set())
        for name, text in sources():
            parts = list(ast.walk(ast.parse(text)))
            called = [part.func for part in parts if isinstance(part, ast.Call)]
            for part in parts:
                if isinstance(part, ast.Attribute):
                    allowed = methods | METHODS if part in called else attributes
                    self.assertIn(part.attr, allowed, (name, part.lineno))

    def test_the_interfaces_methods_stand_in_their_classes(self):
        methods = own_methods()
        for name, listed in INTERFACE.items():
            self.assertEqual(set(listed.split()) - set(methods[name]), set(), name)
            self.assertEqual(len(set(methods[name])), len(methods[name]), name)


if __name__ == "__main__":
    unittest.main()
