"""The examples of the document, as they stand there, in examples.txt: blocks of lines, with a blank line between.

The last line of a block has the value of the line ahead of it, or `raises` and an error with its attributes.
"""

import os
import unittest

from everyload import errors
from tests.support import Case

PLACE = os.path.join(os.path.dirname(os.path.abspath(__file__)), "examples.txt")


def blocks():
    with open(PLACE, encoding="ascii") as file:
        return [block.split("\n") for block in file.read().strip("\n").split("\n\n")]


def run(lines):
    """What the last of the lines gives; the others are carried out ahead of it."""
    names = {}
    for line in lines[:-1]:
        exec(line, names)
    try:
        code = compile(lines[-1], "example", "eval")
    except SyntaxError:
        exec(lines[-1], names)
        return None
    return eval(code, names)


class Examples(Case):
    def raises(self, lines, told):
        name, _, attributes = told.partition("(")
        with self.assertRaises(getattr(errors, name)) as caught:
            run(lines)
        self.assertIs(type(caught.exception), getattr(errors, name))
        if attributes:
            self.same(caught.exception.__dict__, eval("dict(" + attributes))

    def test_there_are_some(self):
        self.assertEqual(len(blocks()), 17)

    def test_all_of_them(self):
        for *lines, told in blocks():
            with self.subTest(lines[-1]):
                self.assertTrue(all(line.startswith(">>> ") for line in lines))
                lines = [line[len(">>> "):] for line in lines]
                if told.startswith("raises "):
                    self.raises(lines, told[len("raises "):])
                else:
                    self.assertEqual(repr(run(lines)), told)


if __name__ == "__main__":
    unittest.main()
