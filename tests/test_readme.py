"""The code in README.md does what it says."""

import pathlib
import re
import unittest

README = pathlib.Path(__file__).resolve().parent.parent / "README.md"


class ReadmeTest(unittest.TestCase):

    def test_its_code(self):
        blocks = re.findall("```python\n(.*?)```", README.read_text(encoding="utf-8"), re.S)
        self.assertEqual(len(blocks), 3)
        for block in blocks:
            exec(compile(block, "README.md", "exec"), {})


if __name__ == "__main__":
    unittest.main()
