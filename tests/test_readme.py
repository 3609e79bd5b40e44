"""The examples of README.md tell what they are said to tell."""

import ast
import os
import unittest

README = os.path.join(os.path.dirname(os.path.dirname(os.path.abspath(__file__))), "README.md")


def blocks(text):
    """The pieces of Python in a text."""
    return [piece.split("```")[0] for piece in text.split("```python\n")[1:]]


def statements(block):
    """Pairs of a statement and the comment that stands behind it."""
    lines = block.split("\n")
    for node in ast.parse(block).body:
        _, _, comment = lines[node.end_lineno - 1].partition("  # ")
        yield ast.get_source_segment(block, node), comment.strip()


class ReadmeTest(unittest.TestCase):

    def test_the_examples(self):
        with open(README, encoding="utf-8") as file:
            text = file.read()
        names = {}
        compared = 0
        for block in blocks(text):
            for statement, comment in statements(block):
                # A comment that begins with a small letter tells what is done, not a value.
                if comment == "" or comment[0].islower():
                    exec(statement, names)
                    continue
                target, _, expression = statement.rpartition(" = ")
                if target:
                    exec(statement, names)
                self.assertEqual(eval(comment), eval(target or expression, names), statement)
                compared += 1
        self.assertGreater(compared, 20)


if __name__ == "__main__":
    unittest.main()
