import ast
import warnings
from pathlib import Path
from unittest import TestCase

FOLDER = Path(__file__).resolve().parent.parent / "guardhopes"
ORDER = [
    "limits", "errors", "machines", "runs", "living", "parts", "likeness", "kinds", "steps", "seeing", "mends",
    "live", "shelves", "checker", "certificates", "console",
]


def files():
    return {path.stem: path.read_text() for path in sorted(FOLDER.glob("*.py"))}


class FormTest(TestCase):
    def test_only_files_of_the_interface(self):
        for name in files():
            self.assertIn(name, ["__init__", *ORDER])

    def test_each_file_needs_only_those_ahead_of_it(self):
        for name, text in files().items():
            for row in ast.walk(ast.parse(text)):
                self.assertNotIsInstance(row, ast.Import)
                if isinstance(row, ast.ImportFrom):
                    package, needed = row.module.split(".")
                    self.assertEqual(package, "guardhopes")
                    self.assertLess(ORDER.index(needed), ORDER.index(name))

    def test_sizes_and_characters(self):
        for name, text in files().items():
            with self.subTest(name):
                self.assertTrue(all(sign == "\n" or " " <= sign <= "~" for sign in text))
                self.assertLess(len(text.split("\n")), 400)
                self.assertLessEqual(max(len(row) for row in text.split("\n")), 120)
                for row in ast.walk(ast.parse(text)):
                    if isinstance(row, ast.FunctionDef):
                        self.assertLessEqual(row.end_lineno - row.lineno + 1, 40)

    def test_python_gives_no_warning(self):
        with warnings.catch_warnings():
            warnings.simplefilter("error")
            for name, text in files().items():
                compile(text, name, "exec")
