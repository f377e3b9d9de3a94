"""The examples of the document, answer by answer, so far as they use the modules written so far; those of README.md."""

import doctest
import os
import re
import unittest

FOLDER = os.path.join(os.path.dirname(os.path.abspath(__file__)), "examples")


class Examples(unittest.TestCase):

    def check(self, name, text):
        test = doctest.DocTestParser().get_doctest(text, {}, name, name, 0)
        told = []
        result = doctest.DocTestRunner(verbose=False).run(test, out=told.append)
        self.assertEqual(result.failed, 0, "".join(told))
        self.assertEqual(result.attempted, text.count(">>> "))
        self.assertGreater(result.attempted, 1)

    def test_document(self):
        names = sorted(os.listdir(FOLDER))
        self.assertTrue(names)
        for name in names:
            with open(os.path.join(FOLDER, name), encoding="utf-8") as file:
                self.check(name, file.read())

    def test_readme(self):
        top = os.path.dirname(os.path.dirname(FOLDER))
        with open(os.path.join(top, "README.md"), encoding="utf-8") as file:
            blocks = re.findall(r"```python\n(.*?)```", file.read(), re.S)
        self.assertGreater(len(blocks), 1)
        # One block uses what those above it have told.
        self.check("README.md", "\n".join(blocks))
