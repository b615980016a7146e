import unittest

from helper import as_bytes
from leastflows.tables import answers

EXAMPLE = as_bytes("(let id (fun x x) (pair (id 1) (id (fun y y))))")


class Example(unittest.TestCase):
    def test_number_by_number(self):
        calls = [0, len(EXAMPLE)] + EXAMPLE + [1, 4, 2, 1, 3, 3, 4, 3, 5, 6, 1, 12]
        both = [2, 0, 0, 1, 9]
        told = [2, 11, 20]
        told += [5] + both
        told += [5] + both
        told += [10] + both + both
        told += [1, -5]
        told += [5, 2, 4, 1, 7, 1]
        told += [3, 2, 4, 7]
        told += [4, 11, 16, 4, 20]
        self.assertEqual(answers(calls), told)

    def test_every_place(self):
        places = [
            (1, 0, [1, 2, 3]), (1, 1, [1, 1, 1]), (1, 2, [2, 0, 0, 1, 9]), (1, 3, [1, 2, 3]),
            (1, 4, [2, 0, 0, 1, 9]), (1, 5, [1, 1, 1]), (1, 6, [1, 0, 0]), (1, 7, [2, 0, 0, 1, 9]),
            (1, 8, [1, 1, 1]), (1, 9, [1, 1, 9]), (1, 10, [0]),
            (2, 0, [1, 1, 1]), (2, 1, [2, 0, 0, 1, 9]), (2, 9, [0]),
            (3, 3, [2, 0, 0, 1, 9, 2, 0, 0, 1, 9]),
        ]
        calls = [0, len(EXAMPLE)] + EXAMPLE
        told = [2, 11, 20]
        for call, label, answer in places:
            calls += [call, label]
            told += [len(answer)] + answer
        self.assertEqual(answers(calls), told)


if __name__ == "__main__":
    unittest.main()
