"""The rules of the language, as far as tests.language knows them, hold for each file of the package."""

import re
import unittest
from pathlib import Path

from tests.language import broken

PACKAGE = Path(__file__).resolve().parent.parent / "hintedpoints"
BAD = {
    "L2": ["from os import path\n", "from math import *\n", "X = 1\nfrom math import gcd\n", "from . import numbers\n"],
    "L3": ["print(1)\n", "X = len([])\n", "X, Y = 1, 2\n"],
    "L6": ["import math\n", "def told(a):\n    return a / 2\n"],
    "L7": ["X = 1.5\n", "def told(xs):\n    return all(x for x in xs)\n"],
    "L8": ["def told(x):\n    return round(x)\n", "def __told(x):\n    return x\n"],
    "L10": ["# " + "x" * 120 + "\n", "\n" * 400, "def told():\n" + "    pass\n" * 40],
    "L14": ["# \u00e9\n", "\tpass\n".replace("pass", "# x")],
    "L15": ["def told():\n    sum = 1\n    return sum\n", "def told(id):\n    return id\n"],
    "L17": ["def mro():\n    pass\n", "def told(x):\n    return x.elements\n"],
    "L19": ["def told():\n    try:\n        pass\n    except TypeError:\n        pass\n"],
    "L20": ["def told(x, y):\n    return x is y\n"],
    "L27": ["X = '" + chr(37) + "'\n"],
}


class Language(unittest.TestCase):
    def test_the_folder_holds_nothing_but_plain_files(self):
        names = sorted(each.name for each in PACKAGE.iterdir() if each.name != "__pycache__")
        self.assertIn("__init__.py", names)
        for name in names:
            self.assertRegex(name, re.compile(r"([a-z0-9_]+)\.py\Z"))

    def test_no_file_breaks_a_rule(self):
        told = []
        for path in sorted(PACKAGE.glob("*.py")):
            told += broken(path.read_text(encoding="utf-8"), path.name)
        self.assertEqual(told, [])

    def test_what_breaks_a_rule_is_seen(self):
        for rule, texts in BAD.items():
            for text in texts:
                self.assertIn(rule, [row.split(" ")[0] for row in broken(text, "bad.py")], text[:60])


if __name__ == "__main__":
    unittest.main()
