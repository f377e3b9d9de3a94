"""The examples of the document, answer by answer, so far as they use the modules written so far."""

import doctest
import os
import unittest

FOLDER = os.path.join(os.path.dirname(os.path.abspath(__file__)), "examples")


class Examples(unittest.TestCase):

    def test_all(self):
        names = sorted(os.listdir(FOLDER))
        self.assertTrue(names)
        for name in names:
            with open(os.path.join(FOLDER, name), encoding="utf-8") as file:
                text = file.read()
            test = doctest.DocTestParser().get_doctest(text, {}, name, name, 0)
            told = []
            result = doctest.DocTestRunner(verbose=False).run(test, out=told.append)
            self.assertEqual(result.failed, 0, "".join(told))
            self.assertEqual(result.attempted, text.count(">>> "))
            self.assertGreater(result.attempted, 3)
