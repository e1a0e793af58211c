"""Runs the examples of the document, in their order: later ones read names of earlier ones."""

import unittest
from pathlib import Path

from starsinaring import (
    corners, counts, crowds, desk, errors, exchange, fields, filling, flat, gaps, judge, lines, lots, meeting, moved, order,
    particles, rounds, runs, signs, stars, texts, weights, wires,
)

MODULES = (
    errors, signs, lines, crowds, runs, particles, lots, filling, corners, stars, meeting, exchange, order, wires, fields, weights,
    counts, gaps, flat, rounds, moved, texts, judge, desk,
)
FOLDER = Path(__file__).parent / "examples"


def names_told():
    """The names of all functions and errors of the interface that have landed."""
    return {name: own for module in MODULES for name, own in vars(module).items() if not name.startswith("_")}


class Examples(unittest.TestCase):
    def test_all_examples(self):
        names = names_told()
        seen = 0
        for path in sorted(FOLDER.glob("*.txt")):
            rows = path.read_text().splitlines()
            for at, row in enumerate(rows):
                if not row.startswith(">>> "):
                    continue
                expected = rows[at + 1] if at + 1 < len(rows) and not rows[at + 1].startswith(">>> ") else None
                with self.subTest(file=path.name, row=row):
                    self.one_example(row[len(">>> "):], expected, names)
                    seen += 1
        self.assertGreater(seen, 0)

    def one_example(self, source, expected, names):
        if expected is None:
            exec(source, names)
        elif expected.startswith("raises "):
            self.one_error(source, expected[len("raises "):], names)
        else:
            # repr tells tuples from lists and True from 1, too
            self.assertEqual(repr(eval(expected)), repr(eval(source, names)))

    def one_error(self, source, expected, names):
        name, _, values = expected[:-1].partition("(")
        with self.assertRaises(names[name]) as caught:
            eval(source, names)
        self.assertIs(type(caught.exception), names[name])
        self.assertEqual(repr(eval(f"dict({values})")), repr(vars(caught.exception)))


if __name__ == "__main__":
    unittest.main()
