"""The package keeps to the form that LANGUAGE.md tells, as far as a walk over its files can see."""

import ast
import builtins
import pathlib
import re
import unittest

from form import faults, own_methods

PACKAGE = pathlib.Path(__file__).resolve().parent.parent / "waymark"
FORBIDDEN_STEMS = {"test", "tests", "testing", "site", "conftest", "sitecustomize", "usercustomize", "typing", "enum"}


def package_files():
    return sorted(path for path in PACKAGE.iterdir() if path.name != "__pycache__")


def drawn_from(path):
    tree = ast.parse(path.read_text(encoding="utf-8"))
    return [(node.module, [alias.name for alias in node.names]) for node in tree.body
            if isinstance(node, ast.ImportFrom)]


def defined_in(path):
    told = set()
    for node in ast.parse(path.read_text(encoding="utf-8")).body:
        if isinstance(node, (ast.FunctionDef, ast.ClassDef)):
            told.add(node.name)
        elif isinstance(node, ast.Assign):
            told |= {target.id for target in node.targets}
    return told


class ThePackage(unittest.TestCase):
    def test_no_faults(self):
        for path in package_files():
            with self.subTest(path=path.name):
                self.assertEqual(faults(path.read_text(encoding="utf-8")), [])

    def test_files(self):
        names = [path.name for path in package_files()]
        self.assertIn("__init__.py", names)
        for name in names:
            with self.subTest(name=name):
                self.assertTrue(name == "__init__.py" or re.fullmatch(r"[a-z][a-z0-9_]*\.py", name))
                self.assertNotIn(name[:-3], FORBIDDEN_STEMS | set(dir(builtins)))
                self.assertFalse(name.startswith("test_"))

    def test_names_are_drawn_from_the_file_that_defines_them(self):
        for path in package_files():
            for module, names in drawn_from(path):
                with self.subTest(path=path.name, module=module):
                    self.assertLessEqual(set(names), defined_in(PACKAGE / (module.split(".")[1] + ".py")))

    def test_no_files_draw_from_one_another(self):
        left = {path.stem: {module.split(".")[1] for module, names in drawn_from(path)} for path in package_files()}
        while left:
            free = [stem for stem, drawn in left.items() if not drawn & set(left)]
            self.assertTrue(free, left)
            for stem in free:
                del left[stem]


    def test_no_name_is_a_method_here_and_a_value_there(self):
        methods, values = set(), set()
        for path in package_files():
            tree = ast.parse(path.read_text(encoding="utf-8"))
            methods |= own_methods(tree)
            values |= {node.attr for node in ast.walk(tree)
                       if isinstance(node, ast.Attribute) and isinstance(node.ctx, ast.Store)}
        self.assertFalse(methods & values)


class TheWatch(unittest.TestCase):
    def test_what_it_tells(self):
        told = {
            "import os\n": "L3", "from os import path\n": "L2", "from waymark.errors import *\n": "L2",
            "X = 1\nX = 2\n": "L15", "X = len('a')\n": "L3", "def f(*xs):\n    pass\n": "L4",
            "def f(_x):\n    pass\n": "L12", "def f(hash):\n    pass\n": "L15", "class A:\n    x = 1\n": "L5",
            "def f():\n    assert 1\n": "L6", "def f():\n    a = b = 1\n": "L6", "def f(a):\n    return a / 2\n": "L7",
            "def f(a):\n    return any(x for x in a)\n": "L7", "def f(a):\n    return 1.5\n": "L7",
            "def f(a):\n    return [x for y in a for x in y]\n": "L7", "def f(a):\n    return map(f, a)\n": "L8",
            "def f(a):\n    return a is f\n": "L20", "def f(a):\n    return a.encode()\n": "L25",
            "def f(a):\n    return chr(a)\n": "L8", "X = '%'\n": "L27", "def f(n):\n    return 2 ** n\n": "L27",
            "X = 1  # type\n": "L17", "X = 1  # \xe4\n": "L14", "X = 1  # " + "a" * 120 + "\n": "L10",
            "def f():\n" + "    pass\n" * 40: "L10", "def f():\n    try:\n        pass\n    except Exception:\n"
            "        pass\n": "L19", "def f(a: int):\n    pass\n": "L21", "def f(a) -> int:\n    pass\n": "L21",
            "def f(a):\n    return int(a, base=16)\n": "L22", "def f(a):\n    return a.split(sep='b')\n": "L22",
            "def f(a):\n    b = zip(a, a)\n": "L23", "def f(a):\n    return a.items()\n": "L23",
            "def f(a):\n    b = set(a)\n": "L24", "def f(a):\n    return set(a)\n": "L24",
            "def f(a):\n    for b in set(a):\n        pass\n": "L24", "def f(a, b):\n    return set(a) == b\n": "L24",
            "class A:\n    def title(self):\n        pass\n": "L26",
            "class A:\n    def f(self):\n        self.values = 1\n": "L26",
        }
        for source, rule in told.items():
            with self.subTest(source=source):
                self.assertTrue([fault for fault in faults(source) if fault.startswith(rule)], faults(source))

    def test_what_it_lets_be(self):
        source = ('"""Words."""\n\nfrom waymark.errors import NoRow\n\nX = {"a": (1, -1)}\n\n\n'
                  'def f(a, b=""):\n    if a is None or len(set(a)) > 2 or set(a) == set(b):\n        raise NoRow()\n'
                  '    for k, x in enumerate(sorted(a, key=len), start=1):\n        a = list(zip(a, range(k)))\n'
                  '    return "".join([x for x in a if x in b])\n')
        self.assertEqual(faults(source), [])


if __name__ == "__main__":
    unittest.main()
