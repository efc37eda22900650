"""What README.md shows is what the package does."""

import doctest
import pathlib
import unittest

README = pathlib.Path(__file__).resolve().parent.parent / "README.md"


class ReadmeTest(unittest.TestCase):

    def test_the_sessions_go_as_shown(self):
        text = README.read_text().replace("```", "\n")
        test = doctest.DocTestParser().get_doctest(text, {}, "README.md", "README.md", 0)
        self.assertGreater(len(test.examples), 10)
        results = doctest.DocTestRunner().run(test)
        self.assertEqual(results.failed, 0)


if __name__ == "__main__":
    unittest.main()
