"""All examples of the interface, which stand in examples.txt as the document writes them."""

import pathlib
import unittest

from handedpast import books, broad, console, counting, elsewhere, errors, fractions, keeping, orders, paces, pairs
from handedpast import play, shares, tables, texts, tracks

EXAMPLES = pathlib.Path(__file__).resolve().parent / "examples.txt"
MODULES = [errors, fractions, tables, pairs, orders, play, counting, shares, keeping, tracks, books, broad, paces,
           elsewhere, texts, console]


def public_names():
    """All that the package defines."""
    return {name: value for module in MODULES for name, value in vars(module).items()
            if getattr(value, "__module__", None) == module.__name__}


class ExamplesTest(unittest.TestCase):
    def test_examples(self):
        names = public_names()
        lines = [line for line in EXAMPLES.read_text(encoding="ascii").splitlines() if line]
        many = 0
        while lines:
            line = lines.pop(0)
            if not line.startswith(">>> "):
                exec(line, names)
                continue
            answer = lines.pop(0) if lines and not lines[0].startswith(">>> ") else None
            many += 1
            if answer is not None and answer.startswith("raises "):
                with self.assertRaises(getattr(errors, answer.split()[1]), msg=line):
                    eval(line[4:], names)
            elif answer is not None:
                self.assertEqual(repr(eval(line[4:], names)), answer, line)
            else:
                exec(line[4:], names)
        self.assertEqual(many, 65)


if __name__ == "__main__":
    unittest.main()
