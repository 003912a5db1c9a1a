"""The examples of README.md: each answer that stands behind a line, and each text that is printed."""

import ast
import contextlib
import io
import re
import unittest
from pathlib import Path

README = (Path(__file__).resolve().parent.parent / "README.md").read_text("utf-8")


def answers(block):
    """Pairs of a statement and what stands behind its last line, if something does."""
    lines = block.split("\n")
    for node in ast.parse(block).body:
        code, mark, remark = lines[node.end_lineno - 1].partition("  # ")
        yield node, remark.strip()


class Examples(unittest.TestCase):
    def test_each_answer(self):
        names = {}
        many = 0
        for block in re.findall(r"```python\n(.*?)```", README, re.S):
            for node, remark in answers(block):
                told = self.done(node, names)
                # Some answers have words behind them, and some remarks are words alone.
                if remark[:1] in ("(", "T", "F"):
                    self.assertTrue(remark.replace('"', "'").startswith(repr(told)), (remark, told))
                    many += 1
        self.assertGreater(many, 20)

    def done(self, node, names):
        printed = io.StringIO()
        with contextlib.redirect_stdout(printed):
            if isinstance(node, ast.Expr):
                told = eval(compile(ast.Expression(node.value), "README.md", "eval"), names)
            else:
                exec(compile(ast.Module([node], []), "README.md", "exec"), names)
                told = names[node.targets[0].id] if isinstance(node, ast.Assign) else None
        if isinstance(node, ast.Expr) and printed.getvalue():
            self.assertIn("```\n" + printed.getvalue() + "```\n", README)
        return told


if __name__ == "__main__":
    unittest.main()
