"""The examples of README.md."""

import doctest
import unittest
from pathlib import Path


class Readme(unittest.TestCase):
    def test_examples(self):
        failed, tried = doctest.testfile(str(Path(__file__).parent.parent / "README.md"), module_relative=False)
        self.assertEqual(0, failed)
        self.assertGreater(tried, 0)


if __name__ == "__main__":
    unittest.main()
