"""The examples of the document, in its sequence: each may use the names of those ahead of it."""

import doctest
import pathlib
import unittest

EXAMPLES = pathlib.Path(__file__).resolve().parent / "examples.txt"


class ExamplesTest(unittest.TestCase):
    def test_examples(self):
        failed, tried = doctest.testfile(str(EXAMPLES), module_relative=False)
        self.assertEqual(failed, 0)
        self.assertGreater(tried, 0)
