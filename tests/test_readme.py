"""README.md says what the program is, how to use it and how to run its tests, and its examples come out as it says."""

import contextlib
import io
import os
import re
import unittest

from test_interface import FILES

ROOT = os.path.dirname(os.path.dirname(os.path.abspath(__file__)))


class ReadmeTest(unittest.TestCase):
    def setUp(self):
        with open(os.path.join(ROOT, "README.md"), encoding="utf-8") as file:
            self.text = file.read()

    def test_the_examples(self):
        code = "\n".join(re.findall(r"```python\n(.*?)```", self.text, re.DOTALL))
        wanted = re.findall(r"^print\(.*\)\s+# (.*)$", code, re.MULTILINE)
        printed = io.StringIO()
        with contextlib.redirect_stdout(printed):
            exec(code, {})
        self.assertEqual(printed.getvalue().splitlines(), wanted)
        self.assertGreater(len(wanted), 10)

    def test_all_files_of_the_document_are_named(self):
        for name in FILES:
            self.assertIn(f"| `{name}` |", self.text)

    def test_how_the_tests_are_run(self):
        self.assertIn("bash .ci/run", self.text)


if __name__ == "__main__":
    unittest.main()
