"""The examples of README.md tell what it says they tell."""

import pathlib
import re
import unittest

README = pathlib.Path(__file__).resolve().parent.parent / "README.md"


class Examples(unittest.TestCase):
    def test_each_line_with_a_value_behind_it(self):
        blocks = re.findall(r"```python\n(.*?)```", README.read_text(encoding="utf-8"), re.DOTALL)
        self.assertTrue(blocks)
        for block in blocks:
            known = {}
            for line in block.splitlines():
                asked, sign, due = line.partition("  # ")
                if sign:
                    self.assertEqual(repr(eval(asked, known)), due.strip(), line)
                else:
                    exec(line, known)


if __name__ == "__main__":
    unittest.main()
