"""What stands where: the files of the package, and the interface in them."""

import ast
import pathlib
import unittest

ROOT = pathlib.Path(__file__).resolve().parent.parent
PACKAGE = ROOT / "spansieve"

# The interface that has landed: for each file its names, for each class the methods in its body.
INTERFACE = {
    "limits.py": {name: () for name in ("MOST_TICKS", "MOST_PARTS", "MOST_NAMES", "MOST_DEEP", "MOST_NUMBER",
                                        "MOST_STANDS")},
    "errors.py": {
        **{name: ("__init__",) for name in ("InvalidText", "InvalidNumber", "InvalidRows", "InvalidName",
                                            "InvalidTicks", "InvalidWish", "NotASieve", "NotAPlan", "UnknownName",
                                            "TooMany", "InUse", "NotKept")},
        **{name: () for name in ("WrongValue", "WrongMoment", "Ended", "NothingToUndo")},
    },
    "plans.py": {"Plan": ("__init__", "size", "rows", "names", "text", "ticks", "marks", "cut", "read", "__eq__",
                          "__str__", "__repr__")},
    "sieves.py": {"Sieve": ("__init__", "text", "names", "parts", "run", "show", "__and__", "__or__", "__sub__",
                            "__invert__", "with_part", "__eq__", "__str__", "__repr__")},
    "machines.py": {"machine": (), "Machine": ("names", "many", "moves", "good", "accepts", "__eq__", "__repr__")},
    "judging.py": {name: () for name in ("alike", "first_parting", "within", "first_beyond")},
    "looking.py": {name: () for name in ("ahead", "back", "unsure")},
    "lengths.py": {name: () for name in ("longest_run", "longest_gap")},
    "shorter.py": {name: () for name in ("shorter", "idle")},
    "players.py": {"Player": ("__init__", "tell", "end", "sieve", "told", "unsure")},
    "books.py": {"Book": ("__init__", "put", "__getitem__", "drop", "wish", "lift", "undo", "words", "wishes", "changes",
                          "__contains__", "trial", "tried")},
    "checker.py": {"holds": ()},
    "claims.py": {name: () for name in ("claim_of_parting", "claim_of_unsure", "claim_of_run", "claim_of_gap")},
    "console.py": {"Console": ("__init__", "say")},
}


def files():
    """Return the files of the package."""
    return sorted(path for path in PACKAGE.rglob("*") if path.is_file() and "__pycache__" not in path.parts)


def defined(path):
    """Return what a file defines itself: each name, and for a class its methods."""
    found = {}
    for part in ast.parse(path.read_text()).body:
        if isinstance(part, ast.ClassDef):
            found[part.name] = [row.name for row in part.body if isinstance(row, ast.FunctionDef)]
        elif isinstance(part, ast.FunctionDef):
            found[part.name] = []
        elif isinstance(part, ast.Assign):
            found.update((target.id, []) for target in part.targets)
    return found


class LayoutTest(unittest.TestCase):
    def test_the_interface_stands_in_its_files(self):
        for name, expected in INTERFACE.items():
            found = defined(PACKAGE / name)
            for word, methods in expected.items():
                with self.subTest(name, word=word):
                    self.assertIn(word, found)
                    self.assertLessEqual(set(methods), set(found[word]))

    def test_the_package_holds_plain_files_alone(self):
        self.assertIn(PACKAGE / "__init__.py", files())
        for path in files():
            self.assertRegex(path.name, r"\A[a-z_][a-z0-9_]*\.py\Z")
            self.assertFalse(path.name.startswith("test"))

    def test_characters_and_sizes(self):
        for path in files():
            text = path.read_bytes().decode("ascii")
            with self.subTest(path.name):
                self.assertTrue(all(sign == "\n" or " " <= sign <= "~" for sign in text))
                self.assertLessEqual(len(text.splitlines()), 399)
                self.assertLessEqual(max([len(line) for line in text.splitlines()]), 120)

    def test_sizes_of_functions(self):
        for path in files():
            for part in ast.walk(ast.parse(path.read_text())):
                if isinstance(part, ast.FunctionDef):
                    with self.subTest(path.name, function=part.name):
                        self.assertLessEqual(part.end_lineno - part.lineno + 1, 40)

    def test_imports_name_the_defining_file(self):
        for path in files():
            for part in ast.walk(ast.parse(path.read_text())):
                self.assertNotIsInstance(part, ast.Import)
                if isinstance(part, ast.ImportFrom) and part.module.startswith("spansieve"):
                    self.assertEqual(part.level, 0)
                    source = ROOT / (part.module.replace(".", "/") + ".py")
                    for alias in part.names:
                        self.assertIn(alias.name, defined(source))


if __name__ == "__main__":
    unittest.main()
