"""Checks the plainest rules of the language that the package is written in."""

import ast
import builtins
import os
import unittest

FOLDER = os.path.join(os.path.dirname(os.path.dirname(os.path.abspath(__file__))), "widthrules")

LIBRARY = {
    "heapq": ("heappush", "heappop", "heapify", "heapreplace", "heappushpop"),
    "math": ("gcd", "lcm", "isqrt", "comb", "perm", "factorial"),
    "itertools": (
        "product", "combinations", "permutations", "chain", "accumulate", "pairwise", "islice",
        "zip_longest",
    ),
    "collections": ("defaultdict",),
}

BUILTINS = (
    "len range enumerate zip min max sum abs sorted reversed int str bool list tuple dict set "
    "frozenset isinstance ord repr any all divmod pow getattr hasattr setattr iter next map super "
    "property staticmethod classmethod Exception ValueError TypeError KeyError IndexError "
    "LookupError ZeroDivisionError ArithmeticError OverflowError RuntimeError "
    "NotImplementedError AttributeError StopIteration NotImplemented"
).split()

METHODS = (
    "append clear copy count endswith extend find get index insert isalnum isalpha isdigit islower "
    "isspace isupper items join keys ljust lower lstrip partition pop remove replace reverse rfind "
    "rjust rpartition rsplit rstrip setdefault split splitlines startswith strip update upper values "
    "zfill bit_length title capitalize swapcase casefold center expandtabs removeprefix removesuffix "
    "rindex isascii isdecimal isnumeric istitle isidentifier isprintable add discard"
).split()


def sources():
    """Return the name and the text of each file of the package."""
    found = []
    for name in sorted(os.listdir(FOLDER)):
        if name != "__pycache__":
            with open(os.path.join(FOLDER, name), encoding="utf-8", newline="") as file:
                found.append((name, file.read()))
    return found


def nodes(kinds):
    """Return the name of the file and the node for each node of these kinds."""
    return [
        (name, node)
        for name, text in sources()
        for node in ast.walk(ast.parse(text))
        if isinstance(node, kinds)
    ]


class Language(unittest.TestCase):
    def test_the_folder_holds_source_files_only(self):
        for name, _ in sources():
            self.assertRegex(name, r"\A(__init__|[a-z][a-z0-9_]*)\.py\Z")

    def test_characters_and_sizes(self):
        for name, text in sources():
            self.assertRegex(text, r"\A[ -~\n]*\Z", name)
            lines = text.split("\n")
            self.assertLess(len(lines), 400, name)
            self.assertLessEqual(max(len(line) for line in lines), 120, name)
        for name, node in nodes(ast.FunctionDef):
            self.assertLessEqual(node.end_lineno - node.lineno + 1, 40, (name, node.name))

    def test_imports(self):
        for name, node in nodes((ast.Import, ast.ImportFrom)):
            self.assertIsInstance(node, ast.ImportFrom, name)
            self.assertEqual(node.level, 0, name)
            taken = [alias.name for alias in node.names]
            if node.module.startswith("widthrules."):
                self.assertNotIn("*", taken, name)
            else:
                self.assertIn(node.module, LIBRARY, name)
                self.assertLessEqual(set(taken), set(LIBRARY[node.module]), name)

    def test_builtins(self):
        for name, node in nodes(ast.Name):
            if hasattr(builtins, node.id):
                self.assertIn(node.id, BUILTINS, (name, node.lineno))
                self.assertIsInstance(node.ctx, ast.Load, (name, node.lineno))
        for name, node in nodes((ast.FunctionDef, ast.ClassDef)):
            if not node.name.startswith("__"):
                self.assertFalse(hasattr(builtins, node.name), (name, node.name))

    def test_methods_that_are_called(self):
        own = [node.name for _, node in nodes(ast.FunctionDef)]
        for name, node in nodes(ast.Call):
            if isinstance(node.func, ast.Attribute):
                self.assertIn(node.func.attr, METHODS + own, (name, node.lineno))

    def test_exponents_floats_and_decorators(self):
        for name, node in nodes(ast.BinOp):
            self.assertNotIsInstance(node.op, ast.Div, (name, node.lineno))
            if isinstance(node.op, ast.Pow) and isinstance(node.right, ast.Constant):
                self.assertIn(node.right.value, range(65), (name, node.lineno))
        for name, node in nodes(ast.Constant):
            self.assertNotIsInstance(node.value, (float, complex), (name, node.lineno))
        for name, node in nodes((ast.FunctionDef, ast.ClassDef)):
            for decorator in node.decorator_list:
                told = ast.unparse(decorator)
                self.assertRegex(told, r"\A(property|staticmethod|classmethod|\w+\.setter)\Z", name)

    def test_module_level(self):
        allowed = (ast.ImportFrom, ast.FunctionDef, ast.ClassDef, ast.Assign, ast.Expr)
        for name, text in sources():
            for at, node in enumerate(ast.parse(text).body):
                self.assertIsInstance(node, allowed, (name, node.lineno))
                if isinstance(node, ast.Expr):
                    self.assertEqual(at, 0, (name, node.lineno))
                    self.assertIsInstance(node.value, ast.Constant, (name, node.lineno))


if __name__ == "__main__":
    unittest.main()
