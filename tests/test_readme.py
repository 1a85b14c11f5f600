"""The examples of README.md."""

import doctest
import unittest
from pathlib import Path

README = Path(__file__).parent.parent / "README.md"


class ReadmeTest(unittest.TestCase):

    def test_examples(self):
        # The fences would count as a part of what the examples print.
        text = README.read_text(encoding="utf-8").replace("```", "")
        examples = doctest.DocTestParser().get_doctest(text, {}, "README.md", str(README), 0)
        failed, many = doctest.DocTestRunner().run(examples)
        self.assertEqual(failed, 0)
        self.assertGreater(many, 30)


if __name__ == "__main__":
    unittest.main()
