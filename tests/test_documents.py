"""The examples in the README."""

import doctest
import unittest
from pathlib import Path

README = Path(__file__).resolve().parent.parent / "README.md"


class ReadmeTest(unittest.TestCase):
    def test_examples(self):
        # The fences would be taken for a part of what an example returns.
        text = README.read_text(encoding="utf-8").replace("```", "")
        found = []
        doctest.DocTestRunner().run(doctest.DocTestParser().get_doctest(text, {}, "README", None, 0), out=found.append)
        self.assertEqual(found, [])
        self.assertGreater(text.count(">>>"), 5)
