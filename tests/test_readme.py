"""README.md: what it shows is what comes."""

import doctest
import pathlib
import unittest


class Readme(unittest.TestCase):

    def test_examples(self):
        file = pathlib.Path(__file__).resolve().parent.parent / "README.md"
        told = doctest.testfile(str(file), module_relative=False, encoding="utf-8")
        self.assertGreater(told.attempted, 0)
        self.assertEqual(told.failed, 0)


if __name__ == "__main__":
    unittest.main()
