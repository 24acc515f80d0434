"""Point 1 rules out a clock, chance and files: the package's own text shows that it has no way to them."""

import ast
import builtins
import unittest
from pathlib import Path

PACKAGE = Path(__file__).resolve().parent.parent / "sliderings"
ALLOWED = set(
    "len range enumerate zip min max sum abs sorted reversed int str bool list tuple dict set frozenset isinstance "
    "ord repr any all divmod Exception ValueError TypeError KeyError IndexError LookupError ZeroDivisionError "
    "ArithmeticError OverflowError RuntimeError NotImplementedError AttributeError StopIteration".split()
)


def sources():
    return sorted(PACKAGE.glob("*.py"))


def nodes(path):
    return list(ast.walk(ast.parse(path.read_text(encoding="utf-8"))))


class Source(unittest.TestCase):
    def test_the_modules_are_there(self):
        names = [path.name for path in sources()]
        for name in ("__init__.py", "errors.py", "rules.py", "growing.py", "most.py", "images.py", "notes.py"):
            self.assertIn(name, names)

    def test_only_the_packages_own_modules_are_drawn_from(self):
        for path in sources():
            for node in nodes(path):
                with self.subTest(path=path.name):
                    self.assertNotIsInstance(node, ast.Import)
                    if isinstance(node, ast.ImportFrom):
                        self.assertEqual(node.level, 0)
                        self.assertTrue(node.module.startswith("sliderings."))

    def test_only_the_allowed_names_of_pythons_own(self):
        for path in sources():
            for node in nodes(path):
                if isinstance(node, ast.Name) and hasattr(builtins, node.id):
                    with self.subTest(path=path.name, name=node.id):
                        self.assertIn(node.id, ALLOWED)

    def test_numbers_are_whole(self):
        for path in sources():
            for node in nodes(path):
                with self.subTest(path=path.name):
                    self.assertNotIsInstance(node, ast.Div)
                    if isinstance(node, ast.Constant):
                        self.assertNotIsInstance(node.value, (float, complex, bytes))

    def test_sizes_and_signs(self):
        for path in sources():
            text = path.read_text(encoding="utf-8")
            with self.subTest(path=path.name):
                self.assertTrue(all(sign == "\n" or " " <= sign <= "~" for sign in text))
                self.assertLessEqual(len(text.splitlines()), 400)
                self.assertLessEqual(max(len(line) for line in text.splitlines()), 120)
            for node in nodes(path):
                if isinstance(node, ast.FunctionDef):
                    self.assertLessEqual(node.end_lineno - node.lineno + 1, 40)


if __name__ == "__main__":
    unittest.main()
