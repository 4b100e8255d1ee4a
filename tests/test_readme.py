"""The examples of README.md."""

import doctest
import unittest
from pathlib import Path

README = Path(__file__).parent.parent / "README.md"


class Readme(unittest.TestCase):
    def test_examples(self):
        found = doctest.testfile(str(README), module_relative=False, encoding="ascii")
        self.assertGreater(found.attempted, 20)
        self.assertEqual(found.failed, 0)


if __name__ == "__main__":
    unittest.main()
