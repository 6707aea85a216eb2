"""What README.md shows is what the program tells."""

import ast
import pathlib
import re
import unittest

README = pathlib.Path(__file__).parent.parent / "README.md"


class Readme(unittest.TestCase):
    def test_its_lines(self):
        names = {}
        asked = 0
        for block in re.findall(r"```python\n(.*?)```", README.read_text(), re.S):
            for node in ast.parse(block).body:
                words = ast.get_source_segment(block, node)
                comment = block.split("\n")[node.end_lineno - 1].partition("  # ")[2].strip() or block.split("\n")[node.end_lineno - 1].partition(" # ")[2].strip()
                if not isinstance(node, ast.Expr):
                    exec(compile(ast.Module([node], []), "README", "exec"), names)
                    continue
                told = eval(words, names)
                if comment:
                    self.assertEqual(repr(told), comment.partition(", or another")[0], words)
                    asked += 1
        self.assertGreater(asked, 25)


if __name__ == "__main__":
    unittest.main()
