"""The examples of README.md do what is written there."""

import doctest
import unittest
from pathlib import Path

README = Path(__file__).resolve().parent.parent / "README.md"


class TheReadme(unittest.TestCase):
    def test_its_examples(self):
        # A fence would be read as a part of what is expected.
        text = README.read_text(encoding="utf-8").replace("```", "")
        test = doctest.DocTestParser().get_doctest(text, {}, "README.md", None, 0)
        found = doctest.DocTestRunner().run(test)
        self.assertGreater(found.attempted, 0)
        self.assertEqual(found.failed, 0)


if __name__ == "__main__":
    unittest.main()
