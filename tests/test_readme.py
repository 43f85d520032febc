"""The examples of README.md."""

import doctest
import os
import unittest

README = os.path.join(os.path.dirname(os.path.dirname(os.path.abspath(__file__))), "README.md")


class Readme(unittest.TestCase):
    def test_examples(self):
        with open(README, encoding="utf-8") as file:
            text = file.read().replace("```", "")
        examples = doctest.DocTestParser().get_doctest(text, {}, "README.md", README, 0)
        self.assertGreater(len(examples.examples), 40)
        self.assertEqual(doctest.DocTestRunner(verbose=False).run(examples).failed, 0)

    def test_each_file_of_the_package_is_told(self):
        with open(README, encoding="utf-8") as file:
            text = file.read()
        for name in os.listdir(os.path.join(os.path.dirname(README), "orderlycore")):
            if name not in ("__init__.py", "__pycache__"):
                self.assertIn(f"`orderlycore/{name}`", text)


if __name__ == "__main__":
    unittest.main()
