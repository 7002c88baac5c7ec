"""The examples of README.md."""

import doctest
import pathlib
import unittest

README = pathlib.Path(__file__).resolve().parent.parent / "README.md"


class Readme(unittest.TestCase):
    def test_examples(self):
        text = README.read_text(encoding="ascii").replace("```", "")
        test = doctest.DocTestParser().get_doctest(text, {}, "README", str(README), 0)
        self.assertGreater(len(test.examples), 6)
        self.assertEqual(doctest.DocTestRunner().run(test).failed, 0)


if __name__ == "__main__":
    unittest.main()
