"""The examples of README.md do what they show."""

import doctest
import os
import unittest

README = os.path.join(os.path.dirname(__file__), os.pardir, "README.md")


class TestReadme(unittest.TestCase):

    def test_examples(self):
        result = doctest.testfile(README, module_relative=False)
        self.assertGreater(result.attempted, 0)
        self.assertEqual(result.failed, 0)


if __name__ == "__main__":
    unittest.main()
