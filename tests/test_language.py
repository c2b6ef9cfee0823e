import pathlib
import unittest

import runrows
from tests.language import Package

FOLDER = pathlib.Path(runrows.__file__).parent

# For each rule, what it rules out: the text of a file, into which the found fault is to fall.
RULED_OUT = (
    ("L3", "import p.other\n"),
    ("L2", "from os import path\n"),
    ("L2", "from .names import is_name\n"),
    ("L16", "from p.other import missing\n"),
    ("L3", "X = len('a')\n"),
    ("L15", "X = [[1], 2]\n"),
    ("L15", "X = 1\nX = 2\n"),
    ("L15", "def f(max):\n    return max\n"),
    ("L15", "def f():\n    hash = 1\n    return hash\n"),
    ("L4", "def f(*many):\n    return many\n"),
    ("L4", "def f(a, *, b):\n    return a\n"),
    ("L4", "def f(a=g()):\n    return a\n"),
    ("L5", "class A:\n    x = 1\n"),
    ("L5", "class A(int):\n    pass\n"),
    ("L6", "def f(xs):\n    del xs[0]\n"),
    ("L6", "def f(xs):\n    assert xs\n"),
    ("L6", "def f():\n    a = b = 1\n    return a\n"),
    ("L6", "def f(xs):\n    for x in xs:\n        pass\n    else:\n        pass\n"),
    ("L6", "def f(xs):\n    return (x for x in xs)\n"),
    ("L6", "def f(xs):\n    return {x: x for x in xs}\n"),
    ("L6", "def f():\n    'words'\n    return 1\n"),
    ("L6", "def f(x):\n    return g(*x)\n"),
    ("L7", "def f(x):\n    return x / 2\n"),
    ("L7", "X = 1.0\n"),
    ("L7", "X = b'a'\n"),
    ("L7", "def f(xs):\n    return [y for x in xs for y in x]\n"),
    ("L7", "def f(x):\n    return f'{x.name}'\n"),
    ("L8", "def f(x):\n    return hash(x)\n"),
    ("L8", "def f(x):\n    return map(x, x)\n"),
    ("L10", "X = '" + "a" * 120 + "'\n"),
    ("L10", "def f():\n" + "    g()\n" * 40),
    ("L12", "def f(xs):\n    for _ in xs:\n        pass\n"),
    ("L14", "X = '\u00e9'\n"),
    ("L14", "def f():\n\treturn 1\n"),
    ("L17", "# of what type it is\n"),
    ("L17", "def f(x):\n    return x.elements\n"),
    ("L18", "class A:\n    def go(self):\n        return 1\n\n\nclass B:\n    def put(self, x):\n        self.go = x\n"),
    ("L19", "def f():\n    try:\n        g()\n    except TypeError:\n        pass\n"),
    ("L19", "def f():\n    try:\n        g()\n    except:\n        pass\n"),
    ("L20", "def f(x, y):\n    return x is y\n"),
    ("L21", "def f(x: int):\n    return x\n"),
    ("L22", "def f(xs):\n    return sum(xs, other=1)\n"),
    ("L23", "def f(xs):\n    ys = enumerate(xs)\n    return ys\n"),
    ("L23", "def f(d):\n    ys = d.items()\n    return ys\n"),
    ("L24", "def f(xs):\n    ys = set(xs)\n    return ys\n"),
    ("L25", "def f(xs):\n    xs.sort()\n"),
    ("L25", "def f(x):\n    return x.isidentifier()\n"),
    ("L26", "class A:\n    def __init__(self, x):\n        self.items = x\n"),
    ("L26", "class A:\n    def title(self):\n        return 1\n"),
    ("L27", "def f(n):\n    return 2 ** n\n"),
    ("L27", "X = 'a%b'\n"),
)


class Language(unittest.TestCase):
    def test_the_package_keeps_to_the_rules(self):
        files = {path.name: path.read_text(encoding="utf-8") for path in FOLDER.iterdir() if path.suffix == ".py"}
        self.assertIn("__init__.py", files)
        self.assertEqual(Package("runrows", files).faults(), [])

    def test_nothing_else_lies_in_the_package(self):
        others = [path.name for path in FOLDER.iterdir() if path.suffix != ".py" and path.name != "__pycache__"]
        self.assertEqual(others, [])

    def test_what_is_ruled_out_is_seen(self):
        for rule, text in RULED_OUT:
            with self.subTest(rule=rule, text=text):
                faults = Package("p", {"one.py": text, "other.py": ""}).faults()
                self.assertIn(rule, [fault[0] for fault in faults])

    def test_files_that_draw_from_one_another_are_seen(self):
        files = {
            "one.py": "from p.two import b\n\n\ndef a():\n    return b()\n",
            "two.py": "from p.three import c\n\n\ndef b():\n    return c()\n",
            "three.py": "from p.one import a\n\n\ndef c():\n    return a()\n",
        }
        self.assertEqual(Package("p", files).faults(), [("L16", file, 0) for file in files])

    def test_what_is_let_by(self):
        text = (
            '"""Words."""\n\nX = {"a": (1, -2)}\n\n\nclass A(ValueError):\n    def __init__(self, x):\n'
            '        self.x = x\n\n    def go(self, xs, y=None):\n        if y is None:\n'
            '            return [x for x in xs if x > 1]\n        for at, x in enumerate(xs):\n'
            '            y = f"{at} {x!r}"\n        return max(xs, default=0)\n'
        )
        self.assertEqual(Package("p", {"one.py": text}).faults(), [])
