"""[40] to [84]: all examples of the interface, over the whole program, as they stand in examples.txt."""

import ast
import importlib
import pathlib
import re
import unittest

from tests.test_language import INTERFACE
from tipwoods import errors

EXAMPLES = pathlib.Path(__file__).resolve().parent / "examples.txt"
RAISED = re.compile(r"raises (\w+)\((.*)\)")


def names_of_the_program():
    """The dict of all functions and classes of the interface, by their names."""
    return {word: getattr(importlib.import_module(f"tipwoods.{name}"), word)
            for name, listed in INTERFACE.items() for word in listed.split()}


def read_examples():
    """The list of the triples of a heading, of a row of code, and of the answer, "" for none."""
    found, heading = [], ""
    for row in EXAMPLES.read_text(encoding="utf-8").splitlines():
        if row.startswith("## "):
            heading = row[3:]
        elif row.startswith(">>> "):
            found.append([heading, row[4:], ""])
        elif not row.startswith("# "):
            found[-1][2] += row
    return [tuple(triple) for triple in found]


class ExamplesTest(unittest.TestCase):
    def test_all_of_them(self):
        names = names_of_the_program()
        told = 0
        for heading, row, answer in read_examples():
            with self.subTest(heading=heading, row=row):
                if not answer:
                    exec(row, names)
                elif RAISED.fullmatch(answer):
                    name, attribute = RAISED.fullmatch(answer).groups()
                    with self.assertRaises(getattr(errors, name)) as caught:
                        eval(row, names)
                    self.assertEqual(caught.exception.at, int(attribute))
                else:
                    found = eval(row, names)
                    self.assertEqual(found, ast.literal_eval(answer))
                    # True is not 1, nor a list a tuple.
                    self.assertEqual(repr(found), repr(ast.literal_eval(answer)))
                told += answer != ""
        self.assertEqual(told, 68)

    def test_each_point_has_one(self):
        told = {int(number)
                for number in re.findall(r"^## \[(\d+)\]", EXAMPLES.read_text(encoding="utf-8"), re.MULTILINE)}
        self.assertEqual(told, set(range(40, 85)))
