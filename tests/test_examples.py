"""The document's own examples, word for word in examples.txt, and those of README.md."""

import doctest
import os
import unittest

HERE = os.path.dirname(os.path.abspath(__file__))


class Examples(unittest.TestCase):
    def runs(self, *names):
        failed, tried = doctest.testfile(os.path.join(HERE, *names), module_relative=False, encoding="utf-8")
        self.assertEqual(failed, 0)
        return tried

    def test_of_the_document(self):
        self.assertEqual(self.runs("examples.txt"), 87)

    def test_of_the_readme(self):
        self.assertGreater(self.runs(os.pardir, "README.md"), 10)


if __name__ == "__main__":
    unittest.main()
