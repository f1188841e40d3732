"""The package keeps to LANGUAGE.md, as far as tests/language.py can see, and that checker finds what is wrong."""

import os
import re
import unittest
import warnings

import asksold
from language import faults

FOLDER = os.path.dirname(asksold.__file__)

RIGHT = '''"""A module."""

from asksold.errors import Bad

MOST = 3
WORDS = ("a", "b")


class Box:
    """A box."""

    MANY = 4

    def __init__(self, rows, most=MOST):
        if len(rows) > most:
            raise Bad("too many")
        self._rows = tuple(rows)

    @property
    def first(self):
        """The first row."""
        return self._rows[0]

    @classmethod
    def made(cls):
        return cls([])

    def __len__(self):
        return len(self._rows)

    def __eq__(self, other):
        return isinstance(other, Box) and self._rows == other._rows

    def has(self, *rows):
        return all([row in self._rows for row in rows])


def steps(rows):
    """Yield them."""
    for at, row in enumerate(rows):
        yield at, row


def told(rows):
    counts = {}
    for _ in range(2):
        counts[MOST] = counts.get(MOST, 0) + 1
    try:
        number = counts[9]
    except KeyError:
        number = Box.MANY
    names = "".join(str(row) for row in rows)
    return [number, names, len({row for row in rows}), sorted(list(steps(rows))), f"{number!r} of {names}"]
'''
ERRORS = '''class Bad(ValueError):
    """Bad."""


class BadAt(Bad):
    """Bad at."""

    def __init__(self, at):
        super().__init__(f"bad at {at}")
        self.at = at
'''

WRONG = [
    ("L10", "X = 1\n" * 400),
    ("L10", "X = '" + "a" * 120 + "'\n"),
    ("L10", "def f(x):\n" + "    x = x + 1\n" * 39 + "    return x\n"),
    ("L14", "def f():\n\treturn 1\n"),
    ("L14", "# caf\u00e9\n"),
    ("L12", "# a _wall\n"),
    ("L12", "def f(_pe_x):\n    return _pe_x\n"),
    ("L12", "def f(xs):\n    return [_ for _ in xs]\n"),
    ("L12", "def __f(x):\n    return x\n"),
    ("L17", "def f(x):\n    return type(x)\n"),
    ("L17", "X = 'an enum'\n"),
    ("L17", "def f(elements):\n    return elements\n"),
    ("L17", "def f(x):\n    return x.format\n"),
    ("L17", "def f(help):\n    return help\n"),
    ("L27", "X = '5%'\n"),
    ("L27", "X = '\\r'\n"),
    ("L27", "X = '__a__'\n"),
    ("L27", "def f(a, b):\n    return a ** b\n"),
    ("L2", "from .errors import Bad\n\n\ndef f():\n    raise Bad('x')\n"),
    ("L2", "from asksold.stores import Store\n\n\ndef f():\n    return Store()\n"),
    ("L2", "from random import choice\n\n\ndef f(x):\n    return choice(x)\n"),
    ("L2", "X = 1\nfrom asksold.errors import Bad\n\n\ndef f():\n    raise Bad('x')\n"),
    ("L2", "from asksold.errors import Bad\n"),
    ("L2", "def f():\n    from asksold.errors import Bad\n    raise Bad('x')\n"),
    ("L16", "import sys\n\n\ndef f():\n    return sys\n"),
    ("L16", "from asksold.errors import Good\n\n\ndef f():\n    raise Good('x')\n"),
    ("L3", "X = len('a')\n"),
    ("L3", "X, Y = 1, 2\n"),
    ("L3", "X = []\nX.append(1)\n"),
    ("L3", "if True:\n    X = 1\n"),
    ("L15", "X = 1\nX = 2\n"),
    ("L15", "def f(len):\n    return len\n"),
    ("L15", "from asksold.errors import Bad\n\n\ndef f(Bad):\n    raise Bad('x')\n"),
    ("L15", "class A:\n    pass\n\n\ndef f():\n    A = 1\n    return A\n"),
    ("L15", "def f():\n    class A:\n        pass\n    return A()\n"),
    ("L4", "def g(f):\n    return f\n\n\n@g\ndef f():\n    return 1\n"),
    ("L4", "def f(x=[]):\n    return x\n"),
    ("L4", "def f(x=len('a')):\n    return x\n"),
    ("L5", "class A:\n    def __hash__(self):\n        return 1\n"),
    ("L5", "class A:\n    x = []\n    print(1)\n"),
    ("L5", "class A:\n    x = len('a')\n"),
    ("L5", "class A(list):\n    pass\n"),
    ("L5", "def g(f):\n    return f\n\n\nclass A:\n    @g\n    def f(self):\n        return 1\n"),
    ("L18", "class A:\n    def f(self):\n        return 1\n\n    def f(self):\n        return 2\n"),
    ("L18", "class A:\n    def __init__(self):\n        self.f = 1\n\n    def f(self):\n        return 2\n"),
    ("L18", "class A:\n    pass\n\n\ndef f():\n    return [A]\n"),
    ("L18", "class A:\n    pass\n\n\ndef f(g):\n    return g(A)\n"),
    ("L18", "def f(x):\n    return x.many\n"),
    ("L18", "class A:\n    def f(self):\n        self.b.c = 1\n"),
    ("L28", "class A:\n    def __init__(self):\n        return None\n"),
    ("L28", "class A:\n    def __len__(self):\n        return 1 + 1\n"),
    ("L28", "class A:\n    @property\n    def f(self):\n        self.x = 1\n        return 1\n"),
    ("L26", "class A:\n    def decode(self):\n        return 1\n"),
    ("L26", "class A:\n    def f(self):\n        self.pop = 1\n"),
    ("L6", "def f(x):\n    with x:\n        return 1\n"),
    ("L6", "def f(x):\n    global X\n    return x\n"),
    ("L6", "def f(x):\n    x + 1\n"),
    ("L6", "async def f(x):\n    return 1\n"),
    ("L6", "def f(x):\n    try:\n        return x[0]\n    finally:\n        pass\n"),
    ("L19", "def f(x):\n    try:\n        return x[0]\n    except TypeError:\n        return 1\n"),
    ("L19", "def f(x):\n    try:\n        return x[0]\n    except:\n        return 1\n"),
    ("L19", "def f(x):\n    raise x\n"),
    ("L7", "X = 1.5\n"),
    ("L7", "def f(x):\n    return x / 2\n"),
    ("L7", "def f(xs):\n    return any(x for x in xs)\n"),
    ("L7", "def f(xs):\n    return (x for x in xs)\n"),
    ("L7", "def f(x):\n    return ...\n"),
    ("L7", "def f(xs):\n    return list(*xs)\n"),
    ("L7", "def f(xs):\n    return g(*xs[1:])\n\n\ndef g(*xs):\n    return xs\n"),
    ("L7", "def f(xs):\n    return g(*xs, len(xs))\n\n\ndef g(*xs):\n    return xs\n"),
    ("L7", "def f(xs):\n    return g(**xs)\n\n\ndef g(x):\n    return x\n"),
    ("L5", "class A:\n    @property\n    def f(self):\n        return 1\n\n\nclass B:\n    def f(self):\n        return 1\n"),
    ("L20", "def f(x, y):\n    return x is y\n"),
    ("L20", "def f(x):\n    return x is 1\n"),
    ("L13", "def f(x):\n    return x in {1, 2, 3}\n"),
    ("L13", "def f(xs):\n    return [lambda x: x, lambda x: 1]\n"),
    ("L8", "def f(x):\n    return hash(x)\n"),
    ("L8", "def f(x):\n    print(x)\n"),
    ("L8", "def f(x):\n    return chr(x)\n"),
    ("L8", "def f(x):\n    return y\n"),
    ("L8", "def f(x):\n    return x.__class__\n"),
    ("L22", "def f(xs):\n    return list(map(str, xs)) + [len]\n"),
    ("L22", "def f(x):\n    return int(x, base=2)\n"),
    ("L25", "def f(x):\n    return x.isoformat()\n"),
    ("L25", "def f(x):\n    return x.split(sep='a')\n"),
    ("L25", "def f(xs):\n    xs.sort()\n"),
    ("L23", "def f(xs):\n    return zip(xs, xs)\n"),
    ("L23", "def f(xs):\n    ys = enumerate(xs)\n    return list(ys)\n"),
    ("L23", "def f(xs):\n    return xs.items()\n"),
    ("L23", "def f(xs):\n    yield 1\n\n\ndef g(xs):\n    return f(xs)\n"),
    ("L23", "def f(xs):\n    yield 1\n\n\ndef g(xs):\n    return sorted(f(xs))\n"),
    ("L23", "def f(xs):\n    yield 1\n\n\nclass A:\n    def f(self):\n        return 1\n"),
    ("L23", "def f(xs):\n    x = yield 1\n    return\n"),
    ("L23", "def f(xs):\n    yield 1\n    return 2\n"),
    ("L23", "def items(xs):\n    yield 1\n"),
    ("L23", "def f(xs):\n    for x in xs:\n        xs.append(x)\n"),
    ("L23", "def f(xs):\n    for k, x in xs.items():\n        xs[k] = 1\n"),
    ("L24", "def f(xs):\n    return set(xs)\n"),
    ("L24", "def f(xs):\n    return [x for x in {1, 2}]\n"),
]


def package_sources():
    sources = {}
    for name in sorted(os.listdir(FOLDER)):
        if name != "__pycache__":
            with open(os.path.join(FOLDER, name), encoding="utf-8", newline="") as file:
                sources[name] = file.read()
    return sources


class LanguageTest(unittest.TestCase):
    def test_the_folder_contains_only_files_with_plain_names(self):
        for name in package_sources():
            self.assertRegex(name, r"^(__init__|[a-z][a-z0-9_]*)\.py$")
        self.assertEqual(package_sources()["__init__.py"], "")

    def test_the_package_keeps_to_the_rules(self):
        self.assertEqual(faults({name[:-3]: source for name, source in package_sources().items()}), [])

    def test_python_gives_no_warning(self):
        with warnings.catch_warnings():
            warnings.simplefilter("error")
            for name, source in package_sources().items():
                compile(source, name, "exec")

    def test_the_checker_accepts_what_is_right(self):
        self.assertEqual(faults({"errors": ERRORS, "plans": RIGHT}), [])

    def test_the_checker_finds_what_is_wrong(self):
        for rule, source in WRONG:
            with self.subTest(rule=rule, source=source), warnings.catch_warnings():
                warnings.simplefilter("ignore")
                found = faults({"errors": ERRORS, "plans": source})
                self.assertIn(rule, [fault.split(" ")[0] for fault in found])
                self.assertTrue(all(re.match(r"L[0-9]+ plans\.py:[0-9]+ ", fault) for fault in found))


if __name__ == "__main__":
    unittest.main()
