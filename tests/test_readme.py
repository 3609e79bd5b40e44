"""The examples of README.md tell what they are said to tell."""

import os
import unittest

README = os.path.join(os.path.dirname(os.path.dirname(os.path.abspath(__file__))), "README.md")


def blocks(text):
    """The pieces of Python in a text."""
    return [piece.split("```")[0] for piece in text.split("```python\n")[1:]]


class ReadmeTest(unittest.TestCase):

    def test_the_examples(self):
        with open(README, encoding="utf-8") as file:
            text = file.read()
        names = {}
        compared = 0
        for block in blocks(text):
            exec(block, names)
            for line in block.split("\n"):
                told, mark, expected = line.partition("  # ")
                if mark:
                    expression = told.split(" = ")[-1].strip()
                    self.assertEqual(eval(expected.strip()), eval(expression, names), line)
                    compared += 1
        self.assertGreater(compared, 20)


if __name__ == "__main__":
    unittest.main()
