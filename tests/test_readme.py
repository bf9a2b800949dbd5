"""Holds the README's examples to what they say."""

import ast
import pathlib
import re
import unittest

README = pathlib.Path(__file__).resolve().parent.parent / "README.md"


class Examples(unittest.TestCase):
    def test_each_row_gives_what_is_written_behind_it(self):
        names, told = {}, 0
        for block in re.findall(r"```python\n(.*?)```", README.read_text(), re.S):
            rows = block.splitlines()
            for statement in ast.parse(block).body:
                text = "\n".join(rows[statement.lineno - 1:statement.end_lineno])
                code, _, comment = text.partition("  # ")
                if not isinstance(statement, ast.Expr) or not comment:
                    if not code.startswith("print"):
                        exec(code, names)
                    continue
                worth = ast.literal_eval(re.split(r": [a-z]", comment)[0])
                self.assertEqual(eval(code.strip(), names), worth, code)
                told += 1
        self.assertGreater(told, 12)


if __name__ == "__main__":
    unittest.main()
