"""The examples in README.md."""

import doctest
import unittest
from pathlib import Path

README = Path(__file__).resolve().parent.parent / 'README.md'


class ReadmeTest(unittest.TestCase):

    def test_examples(self):
        # Without the fences, which would be taken for a part of what the examples print.
        text = README.read_text().replace('```', '')
        example = doctest.DocTestParser().get_doctest(text, {}, 'README.md', 'README.md', 0)
        self.assertGreater(len(example.examples), 20)
        self.assertEqual(doctest.DocTestRunner().run(example).failed, 0)


if __name__ == '__main__':
    unittest.main()
