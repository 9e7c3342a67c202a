"""The examples of the document, one file for each point that has some, and those of README.md hold."""

import doctest
import os
import unittest

HERE = os.path.dirname(os.path.abspath(__file__))
FOLDER = os.path.join(HERE, "examples")


def text_of(path):
    with open(path, encoding="ascii") as file:
        return file.read()


class ExamplesTest(unittest.TestCase):
    def check(self, name, text):
        test = doctest.DocTestParser().get_doctest(text, {}, name, name, 0)
        self.assertGreater(len(test.examples), 0)
        told = []
        doctest.DocTestRunner(verbose=False).run(test, out=told.append)
        self.assertEqual("".join(told), "")

    def test_those_of_the_document(self):
        names = sorted(os.listdir(FOLDER))
        self.assertTrue(names)
        for name in names:
            with self.subTest(name=name):
                self.check(name, text_of(os.path.join(FOLDER, name)))

    def test_those_of_the_readme(self):
        blocks = text_of(os.path.join(HERE, "..", "README.md")).split("```\n")[1::2]
        self.assertTrue(blocks)
        self.check("README.md", "".join(blocks))
