"""The examples of the document, as they stand there, kept in examples.txt."""

import os
import re
import unittest

from layerpost.errors import PostError

HERE = os.path.dirname(os.path.abspath(__file__))
DOCUMENT = os.path.join(HERE, "..", "..", "shared", "DOC.md")


def pairs_of(block):
    """The pairs of a line and what is told behind it, None if nothing is."""
    pairs = []
    for line in block.strip("\n").split("\n"):
        if line.startswith(">>> "):
            pairs.append([line[4:], None])
        else:
            pairs[-1][1] = line
    return pairs


def done(line, names):
    """What a line tells: its value, its error, or None."""
    try:
        code = compile(line, "example", "eval")
    except SyntaxError:
        exec(line, names)
        return None
    try:
        value = eval(code, names)
    except PostError as error:
        fields = ", ".join([repr(field) for field in vars(error).values()])
        return f"raises {type(error).__name__}" + (f"({fields})" if fields else "")
    return None if value is None else repr(value)


class ExamplesTest(unittest.TestCase):

    def blocks(self):
        with open(os.path.join(HERE, "examples.txt"), encoding="utf-8") as file:
            return re.findall(r"```\n(.*?)```\n", file.read(), re.DOTALL)

    def test_each_example_tells_what_the_document_tells(self):
        names = {}
        blocks = self.blocks()
        for block in blocks:
            for line, wanted in pairs_of(block):
                with self.subTest(line=line):
                    self.assertEqual(done(line, names), wanted if wanted is None else wanted.removesuffix("()"))
        self.assertGreater(len(blocks), 2)

    @unittest.skipUnless(os.path.exists(DOCUMENT), "the document is not beside this project")
    def test_the_examples_stand_so_in_the_document(self):
        with open(DOCUMENT, encoding="utf-8") as file:
            text = file.read()
        for block in self.blocks():
            self.assertIn(f"```\n{block}```\n", text)
