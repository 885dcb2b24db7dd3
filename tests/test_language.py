import pathlib
import unittest

from tests.language import faults_of

FOLDER = pathlib.Path(__file__).resolve().parent.parent / "endless"

# A text for each rule that the look-over must find broken, so that a quiet look-over means something.
BROKEN = [
    ("L1", "Upper.py", ""),
    ("L2", "some.py", "def f():\n    from endless.other import name\n"),
    ("L3", "some.py", "print\n"),
    ("L3", "some.py", "A = 1 << 16\n"),
    ("L4", "some.py", "def f(*rest):\n    pass\n"),
    ("L5", "some.py", "class A:\n    b = 1\n"),
    ("L6", "some.py", "def f(a):\n    assert a\n"),
    ("L6", "some.py", "def f(a):\n    b = c = a\n"),
    ("L7", "some.py", "def f(a):\n    return a / 2\n"),
    ("L7", "some.py", "def f(a):\n    return {b for b in a}\n"),
    ("L8", "some.py", "def f(a):\n    return hex(a)\n"),
    ("L10", "some.py", "def f():\n" + "    pass\n" * 40),
    ("L10", "some.py", "# " + "a" * 120 + "\n"),
    ("L12", "some.py", "def f(a):\n    for _ in a:\n        pass\n"),
    ("L14", "len.py", ""),
    ("L14", "some.py", "# caf\u00e9\n"),
    ("L14", "some.py", "def f():\n\tpass\n"),
    ("L15", "some.py", "A = 1\nA = 2\n"),
    ("L15", "some.py", "def f(sum):\n    pass\n"),
    ("L15", "some.py", "from endless.other import name\n\n\ndef f(name):\n    pass\n"),
    ("L15", "some.py", "class A:\n    pass\n\n\ndef f():\n    A = 1\n"),
    ("L16", "some.py", "from endless.other import name\n"),
    ("L16", "some.py", "from endless.some import f\n\n\ndef f():\n    pass\n"),
    ("L17", "some.py", "# of this type\n"),
    ("L19", "some.py", "def f():\n    raise ValueError\n"),
    ("L20", "some.py", "def f(a, b):\n    return a is b\n"),
    ("L21", "some.py", "def f(a: int):\n    pass\n"),
    ("L25", "some.py", "def f(a):\n    a.sort()\n"),
    ("L27", "some.py", "def f(a):\n    return 2 ** a\n"),
]


class LanguageTest(unittest.TestCase):
    def test_the_folder_holds_nothing_but_its_files(self):
        others = [path.name for path in FOLDER.iterdir() if path.suffix != ".py" and path.name != "__pycache__"]
        self.assertEqual(others, [])
        self.assertTrue((FOLDER / "__init__.py").is_file())

    def test_the_package_keeps_to_the_rules(self):
        # Read as bytes: reading as text would turn other row ends into line feeds.
        sources = {path.name: path.read_bytes().decode("utf-8") for path in FOLDER.glob("*.py")}
        self.assertEqual(faults_of(sources), [])

    def test_broken_rules_are_found(self):
        for rule, name, text in BROKEN:
            with self.subTest(rule, text=text):
                rules = [fault.split()[0] for fault in faults_of({name: text})]
                self.assertIn(rule, rules)


if __name__ == "__main__":
    unittest.main()
