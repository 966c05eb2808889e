"""The rules of the language, as far as tests.language knows them, hold for each file of the package."""

import ast
import importlib
import re
import unittest
from pathlib import Path

from tests.language import broken, methods_of

PACKAGE = Path(__file__).resolve().parent.parent / "hintedpoints"
BAD = {
    "L2": ["from os import path\n", "from math import *\n", "X = 1\nfrom math import gcd\n", "from . import numbers\n"],
    "L3": ["print(1)\n", "X = len([])\n", "X, Y = 1, 2\n"],
    "L6": ["import math\n", "def told(a):\n    return a / 2\n"],
    "L7": ["X = 1.5\n", "def told(xs):\n    return all(x for x in xs)\n"],
    "L8": ["def told(x):\n    return round(x)\n", "def __told(x):\n    return x\n"],
    "L10": ["# " + "x" * 120 + "\n", "\n" * 400, "def told():\n" + "    pass\n" * 40],
    "L14": ["# \u00e9\n", "\tpass\n".replace("pass", "# x")],
    "L15": ["def told():\n    sum = 1\n    return sum\n", "def told(id):\n    return id\n",
            "from math import gcd\n\n\ndef told(gcd):\n    return gcd\n", "from math import gcd\n",
            "class Box:\n    pass\n\n\ndef told():\n    Box = 1\n    return Box\n"],
    "L18": ["class Box:\n    def __init__(self):\n        self.n = 1\n\n    def n(self):\n        return 1\n"],
    "L25": ["def told(x):\n    return x.format_map(1)\n", "def told(xs):\n    xs.sort()\n"],
    "L26": ["class Box:\n    def __init__(self):\n        self.items = 1\n"],
    "L28": ["class Box:\n    def __str__(self):\n        return self.text()\n",
            "class Box:\n    def __len__(self):\n        return self.n\n",
            "class Box:\n    def __init__(self):\n        return None\n"],
    "L17": ["def mro():\n    pass\n", "def told(x):\n    return x.elements\n"],
    "L19": ["def told():\n    try:\n        pass\n    except TypeError:\n        pass\n"],
    "L20": ["def told(x, y):\n    return x is y\n"],
    "L27": ["X = '" + chr(37) + "'\n"],
}


class Language(unittest.TestCase):
    def test_the_folder_holds_nothing_but_plain_files(self):
        names = sorted(each.name for each in PACKAGE.iterdir() if each.name != "__pycache__")
        self.assertIn("__init__.py", names)
        for name in names:
            self.assertRegex(name, re.compile(r"([a-z0-9_]+)\.py\Z"))

    def test_no_file_breaks_a_rule(self):
        told = []
        texts = {path.name: path.read_text(encoding="utf-8") for path in sorted(PACKAGE.glob("*.py"))}
        own = methods_of(texts.values())
        for name, text in texts.items():
            told += broken(text, name, own)
        self.assertEqual(told, [])

    def test_no_two_files_import_from_each_other(self):
        imports = {}
        for path in PACKAGE.glob("*.py"):
            rows = re.findall(r"^from hintedpoints[.](\w+) import", path.read_text(encoding="utf-8"), re.M)
            imports[path.stem] = set(rows)
        while imports:
            free = [name for name, others in imports.items() if not others & set(imports)]
            self.assertTrue(free, imports)
            for name in free:
                del imports[name]

    def test_an_import_names_the_file_that_defines_it(self):
        for path in PACKAGE.glob("*.py"):
            module = importlib.import_module("hintedpoints." + path.stem) if path.stem != "__init__" else None
            for node in ast.parse(path.read_text(encoding="utf-8")).body:
                if isinstance(node, ast.ImportFrom) and node.module.startswith("hintedpoints."):
                    text = (PACKAGE / (node.module.split(".")[1] + ".py")).read_text(encoding="utf-8")
                    for each in node.names:
                        self.assertTrue(hasattr(module, each.name))
                        self.assertRegex(text, rf"(?m)^(def {each.name}\(|class {each.name}[(:]|{each.name} = )")

    def test_what_breaks_a_rule_is_seen(self):
        for rule, texts in BAD.items():
            for text in texts:
                self.assertIn(rule, [row.split(" ")[0] for row in broken(text, "bad.py")], text[:60])


if __name__ == "__main__":
    unittest.main()
