"""The package keeps to its part of Python; so also, of promise 2, nothing hangs on a clock, chance or files."""

import ast
import pathlib
import re
import unittest

from language import PACKAGE, faults_in

FOLDER = pathlib.Path(__file__).resolve().parent.parent / PACKAGE

OUT = (
    "import random\n", "from random import choice\n", "from everyplace.errors import *\n",
    "from .errors import NoRow\n", "def f():\n    from everyplace.errors import NoRow\n    return NoRow\n",
    "f = 1\nf = 2\n", "f(1)\n", "def f(*a):\n    return a\n", "def f(a, *, b):\n    return a\n",
    "def f(a):\n    b = c = a\n    return b\n", "def f(a):\n    return a / 2\n", "def f(n):\n    return 2 ** n\n",
    "def f(a):\n    return a * 0.5\n", "def f(a):\n    return [x for y in a for x in y]\n",
    "def f(a):\n    return sum(x for x in a)\n", "def f(a):\n    return pow(a, 2)\n", "def f(id):\n    return 1\n",
    "def f(a):\n    return a.sort()\n", "def f(a):\n    sum = a\n    return a\n", "def f(a, b):\n    return a is b\n",
    "def _f(a):\n    return a\n", "def f(a):\n    assert a\n", "def f(a):\n    yield a\n", "# of which type\n",
    "A = 'caf\u00e9'\n", "A = 'a%'\n", "# " + "a" * 120 + "\n", "def f():\n" + "    pass\n" * 40,
    "def f(a):\n    with a:\n        pass\n", "class A:\n    b = 1\n",
    "def f(a):\n    try:\n        a()\n    except Exception:\n        pass\n",
    "A = 2 ** 30\n", "A = len('abc')\n", "A = [[1], 2]\n", "A = {1: []}\n",
    "from everyplace.errors import NoRow\ndef f(NoRow):\n    return NoRow\n",
    "from everyplace.tables import back\ndef f(a):\n    back = a\n    return back\n",
    "def f(a):\n    b = zip(a, a)\n    return list(b)\n", "def f(a):\n    return range(a)\n",
    "def f(a):\n    return list(a, range(3))\n", "def f(a):\n    return max(1, range(a))\n",
    "def f(a):\n    b = a.items()\n    return len(b)\n", "def f(a):\n    b = set(a)\n    return b\n",
    "def f(a):\n    return [x for x in set(a)]\n", "def f(a):\n    return sorted(set(a), key=abs)\n",
    "def f(a):\n    b = len\n    return b(a)\n", "def f(a):\n    b = a.append\n    b(1)\n",
    "def f(a):\n    return int(a, base=2)\n",
)

IN = (
    "A = (1, -2, 'a')\nB = [(1, 2), (3, 4)]\n", "def f(a):\n    return sorted(set(a + [1]))\n",
    "def f(a):\n    return [i + x for i, x in enumerate(a)]\n",
    "def f(a):\n    return sorted(a, key=len, reverse=True)\n",
    "def f(a):\n    return len(set(a) | set([1]))\n", "def f(a):\n    return dict(zip(a, a, strict=True))\n",
    "def f(a):\n    for b in a.items():\n        return b\n    return isinstance(a, (int, str))\n",
    "def f(a):\n    return max([x for x in a], key=abs, default=0)\n", "def f(a):\n    return 3 in set(a)\n",
)


def package_files():
    return sorted(path for path in FOLDER.rglob("*") if "__pycache__" not in path.parts)


def names_bound(path):
    """The names that a file binds at its top by itself, not by an import."""
    names = []
    for node in ast.parse(path.read_text()).body:
        if isinstance(node, (ast.FunctionDef, ast.ClassDef)):
            names.append(node.name)
        if isinstance(node, ast.Assign):
            names.append(node.targets[0].id)
    return names


def drawn_from(path):
    """Each file that a file draws from, with the names."""
    nodes = [node for node in ast.parse(path.read_text()).body if isinstance(node, ast.ImportFrom)]
    return [(FOLDER.parent / (node.module.replace(".", "/") + ".py"), [a.name for a in node.names]) for node in nodes]


class Language(unittest.TestCase):
    def test_only_plain_files_lie_in_the_package(self):
        self.assertIn(FOLDER / "__init__.py", package_files())
        for path in package_files():
            self.assertTrue(path.is_file(), path)
            self.assertTrue(path.name == "__init__.py" or re.fullmatch(r"[a-z][a-z0-9_]*\.py", path.name), path)

    def test_each_file_keeps_to_the_rules(self):
        for path in package_files():
            self.assertEqual(faults_in(path.read_text(encoding="utf-8")), [], path.name)

    def test_names_are_drawn_from_the_file_that_defines_them(self):
        for path in package_files():
            for source, names in drawn_from(path):
                for name in names:
                    self.assertIn(name, names_bound(source), (path.name, name))

    def test_no_two_files_draw_from_one_another(self):
        left = {path: [source for source, names in drawn_from(path)] for path in package_files()}
        while left:
            free = [path for path, sources in left.items() if not any(source in left for source in sources)]
            self.assertTrue(free, sorted(path.name for path in left))
            left = {path: sources for path, sources in left.items() if path not in free}

    def test_what_is_out_is_found(self):
        for text in OUT:
            self.assertTrue(faults_in(text), text)

    def test_what_is_in_is_let_by(self):
        for text in IN:
            self.assertEqual(faults_in(text), [], text)


if __name__ == "__main__":
    unittest.main()
