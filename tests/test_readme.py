"""Test of README.md: its examples give what it says."""

import doctest
import pathlib
import unittest

README = pathlib.Path(__file__).resolve().parent.parent / "README.md"


class ReadmeTest(unittest.TestCase):
    def test_the_examples(self):
        # The fences would be taken for output, so they are made empty lines.
        text = README.read_text(encoding="ascii").replace("```", "")
        examples = doctest.DocTestParser().get_doctest(text, {}, "README.md", str(README), 0)
        self.assertGreater(len(examples.examples), 30)
        told = []
        result = doctest.DocTestRunner().run(examples, out=told.append)
        self.assertEqual(result.failed, 0, "".join(told))
