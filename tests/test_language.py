"""The package keeps to its part of Python, and the look at it finds what is outside, rule by rule."""

import os
import unittest

from language import faults_of, files_of

ROOT = os.path.dirname(os.path.dirname(os.path.abspath(__file__)))

GOOD = '''"""A file that keeps to the rules."""

from latewell.base import Wrong, half

SIZES = {"small": 1, "great": 2}
NAMES = ("a", "b")


class Shelf:
    """Keeps things."""

    def __init__(self, start=0):
        self.things = []
        self.start = start

    def put(self, thing):
        """Puts one thing more."""
        self.things.append(thing)
        return len(self.things) + self.start


def sizes_of(words):
    """Sizes by their words."""
    found = []
    for number, word in enumerate(words, start=1):
        if word not in SIZES:
            raise Wrong(number)
        found.append((SIZES[word], half(number)))
    best = min(found, key=lambda pair: (pair[0], -pair[1]), default=None)
    if best is None or not isinstance(words, (list, tuple)):
        return []
    rows = sorted(set(found) - set([best]))
    return sorted(rows, key=len, reverse=True)


def number_of(text):
    """A number, or None."""
    try:
        return int(text)
    except ValueError:
        return None


def shown(text):
    """A text beside its number."""
    number = number_of(text)
    return f"{text!r} {number}\\n"
'''
BASE = '''class Wrong(ValueError):
    """Wrong at a place."""

    def __init__(self, at):
        ValueError.__init__(self, at)
        self.at = at


def half(number):
    """Half of it."""
    return number // 2
'''


def faults_with(text, path="sample.py"):
    files = {"__init__.py": b"", "base.py": BASE.encode("utf-8")}
    files[path] = text if isinstance(text, bytes) else text.encode("utf-8")
    return faults_of(files)


def in_def(*rows):
    return "def one(xs, n):\n" + "".join("    " + row + "\n" for row in rows)


BAD = [
    (1, b"x = '\xff'\n"),
    (1, "def broken(:\n"),
    (2, "import os\n"),
    (2, "from .base import half\n"),
    (2, "from latewell.base import *\n"),
    (2, "from math import gcd\n"),
    (2, "from latewell.__main__ import half\n"),
    (2, "A = 1\nfrom latewell.base import half\n"),
    (2, in_def("from latewell.base import half", "return half(n)")),
    (3, "for x in (1, 2):\n    pass\n"),
    (3, "A = 1 + 1\n"),
    (3, "A = len('x')\n"),
    (3, "if True:\n    A = 1\n"),
    (4, "def one(*xs):\n    return xs\n"),
    (4, "def one(**xs):\n    return xs\n"),
    (4, "def one(a, *, b):\n    return a + b\n"),
    (4, "def one(a, /):\n    return a\n"),
    (4, "def one(a=len):\n    return a\n"),
    (4, "def mark(f):\n    return f\n\n\n@mark\ndef one(a):\n    return a\n"),
    (4, in_def("def two():", "    n = 3", "    return n", "return two()")),
    (5, "class A:\n    size = 1\n"),
    (5, "class A(list):\n    \"\"\"A.\"\"\"\n"),
    (5, "class A:\n    \"\"\"A.\"\"\"\n\n\nclass B(A, ValueError):\n    \"\"\"B.\"\"\"\n"),
    (6, in_def("with n:", "    return xs")),
    (6, in_def("assert n", "return xs")),
    (6, in_def("del xs[0]", "return xs")),
    (6, in_def("a = b = n", "return a + b")),
    (6, in_def("a, b = xs", "return a + b")),
    (6, in_def("for x in xs:", "    n += x", "else:", "    n = 0", "return n")),
    (6, in_def("while n:", "    n -= 1", "else:", "    n = 0", "return n")),
    (6, in_def("try:", "    n = xs[0]", "finally:", "    n = 0", "return n")),
    (6, in_def("yield n")),
    (6, in_def("global count", "return n")),
    (6, in_def("n", "return xs")),
    (6, in_def("match n:", "    case 1:", "        return xs")),
    (7, in_def("return 1.5")),
    (7, in_def("return n / 2")),
    (7, in_def("return b'x'")),
    (7, in_def("return {x: 1 for x in xs}")),
    (7, in_def("return len({x for x in xs})")),
    (7, in_def("return sum(x for x in xs)")),
    (7, in_def("return [x + y for x in xs for y in xs]")),
    (7, in_def("return [x for x in xs if x if n]")),
    (7, in_def("return [*xs]")),
    (7, in_def("return {**xs}")),
    (7, in_def("if (m := n):", "    return m", "return n")),
    (7, in_def("return f'{n + 1}'")),
    (7, in_def("return f'{n:3}'")),
    (7, in_def("return f'{n!s}'")),
    (7, "A = {1, 2}\n"),
    (8, in_def("return pow(n, 2, 3)")),
    (8, in_def("return hash(n)")),
    (8, in_def("return xs.format(n)")),
    (8, in_def("return nowhere(n)")),
    (8, "sum = 3\n"),
    (9, in_def("print(n)")),
    (10, in_def(*["n += 1"] * 40)),
    (10, "# remark\n" * 401),
    (10, "# " + "x" * 119 + "\n"),
    (10, "def one(a):\n\treturn a\n"),
    (11, in_def("for x in set(xs):", "    n += x", "return n")),
    (11, in_def("return set(xs).pop()")),
    (12, in_def("_m = n", "return _m")),
    (12, in_def("for _ in xs:", "    n += 1", "return n")),
    (12, "def _one(a):\n    return a\n"),
    (13, in_def("a = {1, 2, 3}", "return a")),
    (13, in_def("return [lambda v: v, lambda v: -v]")),
    (14, "# caf\u00e9\n"),
    (14, "# end\r\n"),
    (15, "def one(a):\n    return a\n\n\ndef one(b):\n    return b\n"),
    (15, "A = [1]\n\n\ndef one(a):\n    A.append(a)\n"),
    (15, "A = {}\n\n\ndef one(a):\n    A[a] = 1\n"),
    (15, "A = [1]\n\n\ndef one():\n    return A\n"),
    (15, "A = [[1]]\n"),
    (15, in_def("max = n", "return max")),
    (15, "def one(id):\n    return id\n"),
    (15, "from latewell.base import half\n\n\ndef one(half):\n    return half\n"),
    (15, in_def("class A:", "    pass", "return n")),
    (16, "from latewell.base import absent\n"),
    (16, "from latewell.absent import half\n"),
    (16, "from latewell.sample import one\n\n\ndef one(a):\n    return a\n"),
    (17, in_def("return xs.open")),
    (17, in_def("return xs.f_back")),
    (17, in_def("return getattr(xs, n)")),
    (17, "# a type of things\n"),
    (17, "# mydataclasses\n"),
    (17, "def one(vars):\n    return vars\n"),
    (18, "class A:\n    \"\"\"A.\"\"\"\n\n\ndef one():\n    return A\n"),
    (18, "class A:\n    \"\"\"A.\"\"\"\n\n\ndef one():\n    A.x = 1\n"),
    (18, "class A(AttributeError):\n    \"\"\"A.\"\"\"\n"),
    (18, "class A:\n    def b(self):\n        return 1\n\n    def b(self):\n        return 2\n"),
    (18, "class A:\n    def b(self):\n        return 1\n\n    def c(self):\n        self.b = 2\n"),
    (19, in_def("try:", "    n = xs[0]", "except Exception:", "    n = 0", "return n")),
    (19, in_def("try:", "    n = xs[0]", "except TypeError:", "    n = 0", "return n")),
    (19, in_def("try:", "    n = xs[0]", "except:", "    n = 0", "return n")),
    (19, in_def("try:", "    n = one(xs, n)", "except ValueError:", "    n = 0", "return n")),
    (19, in_def("try:", "    n = one(xs[0], n)", "except IndexError:", "    n = 0", "return n")),
    (19, in_def("try:", "    n = int(xs) * 2", "except ValueError:", "    n = 0", "return n")),
    (19, in_def("raise ValueError")),
    (19, in_def("raise ValueError(n) from xs")),
    (20, in_def("return n is xs")),
    (20, in_def("return n is not 3")),
    (21, "def one(a: int):\n    return a\n"),
    (21, "def one(a) -> int:\n    return a\n"),
    (21, in_def("m: int = n", "return m")),
    (22, in_def("return [len, n]")),
    (22, in_def("return isinstance(n, xs)")),
    (22, in_def("return isinstance(n, int | str)")),
    (22, in_def("return sorted(xs, key=ord)")),
    (22, in_def("return int(xs, base=n)")),
    (22, in_def("return xs.split(maxsplit=1)")),
    (22, in_def("return sorted(xs, reverse=n)")),
    (23, in_def("a = range(n)", "return a")),
    (23, in_def("return n in range(3)")),
    (23, in_def("return xs.items()")),
    (23, in_def("for x in xs:", "    xs.append(x)", "return n")),
    (23, in_def("for x in enumerate(xs):", "    xs[0] = x", "return n")),
    (24, in_def("a = set(xs)", "return n in a")),
    (24, in_def("return list(set(xs))")),
    (24, in_def("return sorted(set(xs), reverse=True)")),
    (24, in_def("return set(xs) == n")),
    (25, in_def("xs.sort()", "return xs")),
    (25, in_def("return xs.title()")),
    (25, in_def("return sorted(n, key=xs.get)")),
    (25, in_def("return xs.size")),
    (26, "class A:\n    def title(self):\n        return 1\n"),
    (26, "class A:\n    def b(self, n):\n        self.items = n\n"),
    (26, "class A:\n    def b(self, n):\n        self.args = n\n"),
    (27, in_def("return 2 ** n")),
    (27, in_def("return n ** 65")),
    (27, in_def("return '50 %'")),
    (27, in_def("return '\\x41'")),
    (27, in_def("return f'\\r{n}'")),
    (27, in_def("return chr(n)")),
    (27, in_def("return 0x" + "f" * 800)),
    (28, "class A:\n    def __init__(self):\n        return None\n"),
    (28, "class A:\n    def __eq__(self, other):\n        return True\n"),
    (28, "class A(ValueError):\n    def __init__(self, at):\n        ValueError.__init__(at)\n"),
]


class TheLook(unittest.TestCase):
    def test_good_code_is_let_by(self):
        self.assertEqual(faults_with(GOOD), [])

    def test_bad_code_is_found_by_its_rule(self):
        for number, text in BAD:
            with self.subTest(rule=number, text=text):
                self.assertIn(number, [fault[0] for fault in faults_with(text)])

    def test_each_rule_has_something_that_breaks_it(self):
        self.assertEqual(sorted({number for number, text in BAD}), list(range(1, 29)))

    def test_files(self):
        for number, path in (
            (1, "notes.txt"), (1, "a-b.py"), (14, "len.py"), (14, "tests.py"), (14, "test_x.py"), (14, "enum.py"),
            (14, "Great.py"), (14, "__main__.py"), (14, "inner/sample.py"),
        ):
            with self.subTest(path=path):
                self.assertIn(number, [fault[0] for fault in faults_with("", path)])
        self.assertIn(14, [fault[0] for fault in faults_of({"sample.py": b""})])

    def test_files_that_draw_from_one_another(self):
        files = {
            "__init__.py": b"",
            "one.py": b"from latewell.two import b\n\n\ndef a(n):\n    return b(n)\n",
            "two.py": b"from latewell.three import c\n\n\ndef b(n):\n    return c(n)\n",
            "three.py": b"from latewell.one import a\n\n\ndef c(n):\n    return a(n)\n",
        }
        self.assertEqual([fault[:2] for fault in faults_of(files)], [(16, "one.py"), (16, "three.py"), (16, "two.py")])

    def test_a_first_file_that_draws_from_another_one(self):
        files = {
            "__init__.py": b"from latewell.one import a\n",
            "one.py": b"from latewell.two import b\n\n\ndef a(n):\n    return b(n)\n",
            "two.py": b"def b(n):\n    return n\n",
        }
        self.assertIn((16, "__init__.py"), [fault[:2] for fault in faults_of(files)])

    def test_a_first_file_with_the_name_of_a_file(self):
        files = {"__init__.py": b"one = 1\n", "one.py": b""}
        self.assertEqual([fault[:2] for fault in faults_of(files)], [(16, "__init__.py")])


class ThePackage(unittest.TestCase):
    def test_the_package_keeps_to_the_rules(self):
        files = files_of(os.path.join(ROOT, "latewell"))
        self.assertIn("__init__.py", files)
        self.assertIn("stretches.py", files)
        shown = [f"L{number} {path}:{line} {words}" for number, path, line, words in faults_of(files)]
        self.assertEqual(shown, [])

    def test_no_test_lies_in_the_package(self):
        names = [path for path in files_of(os.path.join(ROOT, "latewell")) if "test" in path]
        self.assertEqual(names, [])


if __name__ == "__main__":
    unittest.main()
