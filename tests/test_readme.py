"""The examples of README.md do what they show."""

import doctest
from pathlib import Path
from unittest import TestCase

README = Path(__file__).resolve().parent.parent / "README.md"


class ReadmeTest(TestCase):
    def test_examples(self):
        # A line of three backquotes ends an example; doctest would take it for what is printed.
        text = README.read_text(encoding="utf-8").replace("```", "")
        test = doctest.DocTestParser().get_doctest(text, {}, "README.md", str(README), 0)
        told = []
        result = doctest.DocTestRunner(verbose=False).run(test, out=told.append)
        self.assertEqual((result.failed, "".join(told)), (0, ""))
        self.assertGreater(result.attempted, 10)
