"""README.md: what it shows is what the program returns."""

import doctest
import os
import unittest

import homingtrue

README = os.path.join(os.path.dirname(os.path.dirname(os.path.abspath(homingtrue.__file__))), "README.md")


class Readme(unittest.TestCase):
    def test_its_examples(self):
        with open(README, encoding="ascii") as file:
            text = file.read().replace("```", "")
        examples = doctest.DocTestParser().get_doctest(text, {}, "README.md", README, 0)
        told = []
        found = doctest.DocTestRunner(verbose=False).run(examples, out=told.append)
        self.assertEqual((found.failed, told), (0, []))
        self.assertGreater(found.attempted, 20)


if __name__ == "__main__":
    unittest.main()
