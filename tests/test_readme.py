"""The examples of README.md tell what stands behind them."""

import ast
import re
import unittest
from pathlib import Path

README = Path(__file__).resolve().parent.parent / "README.md"


class Examples(unittest.TestCase):
    def test_examples(self):
        source = "\n".join(re.findall(r"```python\n(.*?)```", README.read_text(encoding="utf-8"), re.DOTALL))
        rows = source.split("\n")
        names = {}
        looked = 0
        for node in ast.parse(source).body:
            if isinstance(node, ast.Try):
                self.look_at_refusal(node, rows, names)
                continue
            if not isinstance(node, ast.Expr):
                exec(ast.unparse(node), names)
                if isinstance(node, ast.Assign) and " # " in rows[node.end_lineno - 1]:
                    self.assertEqual(repr(names[node.targets[0].id]), rows[node.end_lineno - 1].split(" # ")[1])
                continue
            self.assertEqual(repr(eval(ast.unparse(node), names)), rows[node.end_lineno - 1].split(" # ")[1])
            looked += 1
        self.assertGreater(looked, 15)

    def look_at_refusal(self, node, rows, names):
        """Is what is tried refused, and are the refusal's fields as told?"""
        handler = node.handlers[0]
        with self.assertRaises(names[handler.type.id]) as caught:
            exec(ast.unparse(node.body[0]), names)
        told = eval(ast.unparse(handler.body[0]), {handler.name: caught.exception})
        self.assertEqual(repr(told), rows[handler.body[0].end_lineno - 1].split(" # ")[1])


if __name__ == "__main__":
    unittest.main()
