"""The document's own example, number by number."""

import unittest

from helper import as_bytes
from leastflows.tables import answers

EXAMPLE = as_bytes("(let id (fun x x) (pair (id 1) (id (fun y y))))")
LINES = [
    "n0 p3", "n1 f1", "n2 num f9", "n3 p3", "n4 num f9", "n5 f1", "n6 num", "n7 num f9", "n8 f1", "n9 f9",
    "x0 f1", "x1 num f9", "a3 num f9", "b3 num f9",
]
TEXT = as_bytes("\n".join(LINES) + "\n")
SHORTER = as_bytes("\n".join(LINES[:-1]) + "\n")
BOTH = [2, 0, 0, 1, 9]


class Example(unittest.TestCase):
    def test_number_by_number(self):
        calls = [0, len(EXAMPLE)] + EXAMPLE
        told = [2, 11, 20]
        calls += [1, 4]
        told += [5] + BOTH
        calls += [2, 1]
        told += [5] + BOTH
        calls += [3, 3]
        told += [10] + BOTH + BOTH
        calls += [4, 3]
        told += [1, -5]
        calls += [5]
        told += [5, 2, 4, 1, 7, 1]
        calls += [6, 1]
        told += [3, 2, 4, 7]
        calls += [9, 4, 1, 9]
        told += [10, 3, 0, 9, 7, 1, 1, 2, 0, 2, 4]
        calls += [9, 4, 1, 1]
        told += [1, -4]
        calls += [10, 0]
        told += [4, 11, 11, 2, 2]
        calls += [11, 0]
        told += [9, 2, 0, 4, 1, 9, 0, 7, 0, 0]
        calls += [7]
        told += [110, 109] + TEXT
        calls += [8, len(TEXT)] + TEXT
        told += [2, 1, 20]
        calls += [8, len(SHORTER)] + SHORTER
        told += [5, 0, 3, 3, 0, 0]
        calls += [12]
        told += [4, 11, 16, 4, 20]
        self.assertEqual(answers(calls), told)

    def test_every_place(self):
        places = [
            (1, 0, [1, 2, 3]), (1, 1, [1, 1, 1]), (1, 2, BOTH), (1, 3, [1, 2, 3]), (1, 4, BOTH), (1, 5, [1, 1, 1]),
            (1, 6, [1, 0, 0]), (1, 7, BOTH), (1, 8, [1, 1, 1]), (1, 9, [1, 1, 9]), (1, 10, [0]),
            (2, 0, [1, 1, 1]), (2, 1, BOTH), (2, 9, [0]), (3, 3, BOTH + BOTH),
        ]
        calls = [0, len(EXAMPLE)] + EXAMPLE
        told = [2, 11, 20]
        for call, label, answer in places:
            calls += [call, label]
            told += [len(answer)] + answer
        self.assertEqual(answers(calls), told)


if __name__ == "__main__":
    unittest.main()
