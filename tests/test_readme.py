"""The examples of README.md tell what they say."""

import ast
import pathlib
import re
import unittest

README = pathlib.Path(__file__).resolve().parent.parent / "README.md"


class ReadmeTest(unittest.TestCase):

    def test_examples(self):
        names, seen = {}, 0
        for block in re.findall(r"```python\n(.*?)```", README.read_text(encoding="utf-8"), re.DOTALL):
            rows = block.split("\n")
            for node in ast.parse(block).body:
                if isinstance(node, ast.Try):
                    continue
                if isinstance(node, ast.Expr):
                    told = eval(compile(ast.Expression(node.value), "README.md", "eval"), names)
                else:
                    exec(compile(ast.Module([node], []), "README.md", "exec"), names)
                    target = node.targets[0] if isinstance(node, ast.Assign) else None
                    told = names[target.id] if isinstance(target, ast.Name) else None
                remark = rows[node.end_lineno - 1][node.end_col_offset:].strip()
                if remark:
                    self.assertEqual(told, ast.literal_eval(remark.lstrip("# ")), rows[node.lineno - 1])
                    seen += 1
        self.assertGreater(seen, 40)


if __name__ == "__main__":
    unittest.main()
