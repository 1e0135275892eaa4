"""The examples of the document that stand in examples.txt."""

import doctest
import unittest
from pathlib import Path


class Examples(unittest.TestCase):

    def test_examples(self):
        path = Path(__file__).resolve().parent / "examples.txt"
        failed, tried = doctest.testfile(str(path), module_relative=False)
        self.assertEqual(failed, 0)
        self.assertEqual(tried, 38)


if __name__ == "__main__":
    unittest.main()
