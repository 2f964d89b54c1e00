"""Runs the examples of README.md."""

import doctest
import unittest
from pathlib import Path

README = Path(__file__).resolve().parent.parent / "README.md"


class ReadmeTest(unittest.TestCase):
    def test_examples(self):
        text = README.read_text(encoding="utf-8").replace("```", "")
        example = doctest.DocTestParser().get_doctest(text, {}, "README.md", "README.md", 0)
        self.assertGreater(len(example.examples), 20)
        found = doctest.DocTestRunner(verbose=False).run(example)
        self.assertEqual(found.failed, 0)


if __name__ == "__main__":
    unittest.main()
