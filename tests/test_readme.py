"""The example in README.md tells what it says."""

import ast
import pathlib
import re
import unittest

README = pathlib.Path(__file__).resolve().parent.parent / "README.md"


class ReadmeTest(unittest.TestCase):
    def test_the_example(self):
        code = re.search(r"```python\n(.*?)```", README.read_text(), re.DOTALL).group(1)
        names = {}
        looked_at = 0
        for line in code.split("\n"):
            call, sign, expected = line.partition("  #")
            if sign:
                self.assertEqual(repr(eval(call, names)), repr(ast.literal_eval(expected.strip())), call)
                looked_at += 1
            else:
                exec(line, names)
        self.assertGreater(looked_at, 0)


if __name__ == "__main__":
    unittest.main()
