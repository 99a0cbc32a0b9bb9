import pathlib
import unittest

from language import faults

FOLDER = pathlib.Path(__file__).resolve().parent.parent / "holdback"

OUTSIDE = (
    ("L3", "import sys\n"),
    ("L2", "from sys import argv\n"),
    ("L3", "print(1)\n"),
    ("L3", "A = 10 ** 30\n"),
    ("L4", "def f(*parts):\n    return parts\n"),
    ("L5", "class A:\n    x = 1\n"),
    ("L6", "def f():\n    assert f\n"),
    ("L6", "def f(x):\n    for y in x:\n        pass\n    else:\n        pass\n"),
    ("L6", "def f(a):\n    b = c = a\n"),
    ("L7", "def f():\n    return 1 / 2\n"),
    ("L7", "A = 1.5\n"),
    ("L7", "def f(x):\n    return f'{x.y}'\n"),
    ("L7", "def f(x):\n    return sum(y for y in x)\n"),
    ("L8", "def f(x):\n    return getattr(x, 'y')\n"),
    ("L10", "A = 1 #" + "x" * 120 + "\n"),
    ("L10", "def f():\n" + "    f()\n" * 40),
    ("L10", "\n" * 401),
    ("L12", "def f(x):\n    _ = x\n"),
    ("L14", "A = '\u00e9'\n"),
    ("L14", "def f():\n\treturn 1\n"),
    ("L15", "def f(id):\n    return id\n"),
    ("L15", "A = 1\nA = 2\n"),
    ("L17", "A = 1  # a type\n"),
    ("L17", "def f(x):\n    return x.open\n"),
    ("L18", "class A:\n    def b(self):\n        self.b = 1\n"),
    ("L20", "def f(x, y):\n    return x is y\n"),
    ("L21", "def f(x: int):\n    return x\n"),
    ("L25", "def f(x):\n    return x.sort()\n"),
    ("L26", "class A:\n    def b(self):\n        self.items = 1\n"),
    ("L27", "A = '100%'\n"),
)


def rules(told):
    return {fault.split(": ")[1].split(" ")[0] for fault in told}


class LanguageTest(unittest.TestCase):
    def test_the_package_keeps_to_the_language(self):
        sources = {path.name: path.read_text("utf-8") for path in FOLDER.glob("*.py")}
        self.assertIn("__init__.py", sources)
        self.assertEqual(faults(sources), [])

    def test_nothing_else_lies_in_the_package(self):
        others = [path.name for path in FOLDER.iterdir() if path.suffix != ".py"]
        # Python itself may leave this one there; it is never committed.
        self.assertEqual([name for name in others if name != "__pycache__"], [])

    def test_what_stands_outside_is_found(self):
        for rule, text in OUTSIDE:
            with self.subTest(rule=rule, text=text[:60]):
                told = rules(faults({"a.py": text}))
                self.assertTrue(any(rule in one.split("/") for one in told), told)

    def test_circles_and_names_from_elsewhere_are_found(self):
        one = "from holdback.b import g\n\n\ndef f():\n    return g()\n"
        other = "from holdback.a import f\n\n\ndef g():\n    return f()\n"
        self.assertEqual(rules(faults({"a.py": one, "b.py": other})), {"L16"})
        self.assertEqual(rules(faults({"a.py": one, "b.py": "def f():\n    return 1\n"})), {"L16"})
        self.assertEqual(faults({"a.py": one, "b.py": "def g():\n    return 1\n"}), [])


if __name__ == "__main__":
    unittest.main()
