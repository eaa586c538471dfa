"""The examples of the document, where it lies beside the project."""

import os
import unittest

from unsewn.errors import UnsewnError

DOCUMENT = os.path.join(
    os.path.dirname(os.path.dirname(os.path.dirname(os.path.abspath(__file__)))), "shared", "DOC.md")
MARK = "    >>> "


def examples():
    """Pairs of what is asked and what the document says comes of it."""
    with open(DOCUMENT, encoding="utf-8") as file:
        lines = file.read().split("\n")
    told = []
    for at, line in enumerate(lines):
        if line.startswith(MARK):
            answer = []
            for later in lines[at + 1:]:
                if not later.startswith("    ") or later.startswith(MARK):
                    break
                answer.append(later.strip())
            told.append((line[len(MARK):], "\n".join(answer)))
    return told


def answer_to(asked, names):
    """What comes of it, as the document writes it."""
    try:
        code = compile(asked, "example", "eval")
    except SyntaxError:
        exec(asked, names)
        return ""
    try:
        value = eval(code, names)
    except UnsewnError as raised:
        fields = ", ".join(f"{name}={value!r}" for name, value in vars(raised).items())
        return f"raises {type(raised).__name__}({fields})"
    return "" if value is None else repr(value)


@unittest.skipUnless(os.path.exists(DOCUMENT), "the document is not there")
class TestDocument(unittest.TestCase):
    def test_examples(self):
        names = {}
        told = examples()
        self.assertTrue(len(told) > 200, len(told))
        for asked, answer in told:
            self.assertEqual(answer_to(asked, names), answer, asked)
