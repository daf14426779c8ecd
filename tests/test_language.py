import pathlib
import re
import unittest

import treewithin
from language import PACKAGE, drawn_from, faults, names_at_top

FOLDER = pathlib.Path(treewithin.__file__).parent


def modules():
    """The text of each module of the package."""
    return {path.stem: path.read_text(encoding="utf-8") for path in sorted(FOLDER.glob("*.py"))}


class PackageTest(unittest.TestCase):
    def test_only_modules_lie_in_it(self):
        self.assertEqual(FOLDER.name, PACKAGE)
        for path in FOLDER.iterdir():
            if path.name != "__pycache__":
                self.assertRegex(path.name, r"\A([a-z][a-z0-9_]*|__init__|__main__)\.py\Z")

    def test_each_module_keeps_to_the_rules(self):
        for name, text in modules().items():
            with self.subTest(name):
                self.assertEqual(faults(text), [])

    def test_names_are_drawn_from_where_they_are_defined(self):
        texts = modules()
        for name, text in texts.items():
            for module, drawn in drawn_from(text):
                self.assertIn(drawn, names_at_top(texts[module]), name)

    def test_no_two_modules_draw_from_one_another(self):
        left = {name: {module for module, drawn in drawn_from(text)} for name, text in modules().items()}
        while left:
            free = [name for name, drawn in left.items() if not drawn & set(left)]
            self.assertTrue(free, left)
            left = {name: drawn for name, drawn in left.items() if name not in free}

    def test_nothing_is_imported_that_is_not_used(self):
        for name, text in modules().items():
            for module, drawn in drawn_from(text):
                self.assertGreater(len(re.findall(rf"\b{drawn}\b", text)), 1, (name, drawn))


class RulesTest(unittest.TestCase):
    """The look itself sees what it should see."""

    def test_what_is_ruled_out_is_seen(self):
        for text in (
            "import sys\n", "from os import path\n", "from .trees import nodes\n", "x = [k for k in (1, 2)]\n",
            "x = 1\nx = 2\n", "def f(*a):\n    return a\n", "def f(len):\n    return len\n", "def f(x):\n    return x / 2\n",
            "def f(x):\n    return open(x)\n", "def f(x):\n    return type(x)\n", "def f(x):\n    a = b = x\n",
            "def f(x):\n    return (k for k in x)\n", "def f(x):\n    return x.sort()\n", "def f(x, y):\n    return x is y\n",
            "def f(x):\n    y = set(x)\n    return y\n", "def f(x):\n    y = range(x)\n    return y\n",
            "def f(x):\n    return f'{x + 1}'\n", "def f(x):\n    return 2 ** x\n", "def f(slice):\n    return slice\n",
            "def f(x):\n    return reversed(range(x))\n", "def f(_x):\n    return _x\n", "X = '\u00e4'\n",
            "def f(x):\n" + "    x = x + 1\n" * 40, "# " + "x" * 120 + "\n", "def f(x):\n    del x\n",
            "def f(x):\n    return {k for k in x}\n", "def f(x):\n    return chr(x)\n", "def f(x: int):\n    return x\n",
            "from treewithin.trees import nodes\n\ndef f(nodes):\n    return nodes\n", "X = 1.5\n",
        ):
            with self.subTest(text):
                self.assertNotEqual(faults(text), [])

    def test_what_is_let_stand_is_not(self):
        for text in (
            "X = (1, 'a', None)\n", "def f(x):\n    return tuple([k for k in x if k is not None])\n",
            "def f(x):\n    return len(set(x)) == len(x)\n", "def f(x):\n    return list(reversed(x))\n",
            "def f(x):\n    return min([k for k in x], default=None)\n", "def f(x):\n    return f'({x})'\n",
        ):
            with self.subTest(text):
                self.assertEqual(faults(text), [])
