import doctest
import os
import unittest

ROOT = os.path.dirname(os.path.dirname(os.path.abspath(__file__)))


class TestReadme(unittest.TestCase):
    def test_examples(self):
        told = doctest.testfile(os.path.join(ROOT, "README.md"), module_relative=False)
        self.assertTrue(told.attempted > 0)
        self.assertEqual(told.failed, 0)
