"""The examples of README.md and of the interface are right."""

import doctest
import os
import unittest

HERE = os.path.dirname(os.path.abspath(__file__))


class ReadmeTest(unittest.TestCase):
    def check(self, path, least):
        failed, tried = doctest.testfile(path, module_relative=False)
        self.assertEqual(failed, 0)
        self.assertGreaterEqual(tried, least)

    def test_examples_of_the_readme(self):
        self.check(os.path.join(os.path.dirname(HERE), "README.md"), 30)

    def test_examples_of_the_interface(self):
        self.check(os.path.join(HERE, "examples.txt"), 58)


if __name__ == "__main__":
    unittest.main()
