"""The examples of README.md: each runs, and gives the value that stands behind it."""

import ast
import pathlib
import re
import unittest

README = pathlib.Path(__file__).resolve().parent.parent / "README.md"


def literal(comment):
    """The value that a comment tells, perhaps with words behind a colon, as a list of none or one."""
    for told in (comment, comment.split(": ")[0]):
        try:
            return [ast.literal_eval(told)]
        except (SyntaxError, ValueError):
            pass
    return []


class ExamplesTest(unittest.TestCase):
    def test_examples(self):
        names, checked = {}, 0
        for block in re.findall(r"```python\n(.*?)```", README.read_text(), re.DOTALL):
            lines = block.split("\n")
            for node in ast.parse(block).body:
                code = "\n".join(lines[node.lineno - 1:node.end_lineno])
                if not isinstance(node, ast.Expr):
                    exec(code, names)
                    continue
                value = eval(code.split("  #")[0], names)
                behind = lines[node.end_lineno - 1].split("  # ")[1:] or lines[node.end_lineno][:2] == "# " and [
                    lines[node.end_lineno][2:]]
                for told in literal(behind[0]) if behind else []:
                    self.assertEqual(value, told, code)
                    checked += 1
        self.assertGreaterEqual(checked, 35)


if __name__ == "__main__":
    unittest.main()
