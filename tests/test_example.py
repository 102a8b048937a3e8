import unittest

from patchrows.history import answers
from tests.lines import (COUNT, FORM, FRONTS, OUTCOME, RANK, ROW, add, ask, drop, equal, kth, needs, neededby, order,
                         pick, tree)

ADDED = [
    tree([1, 0, 5, 1, 2, 3, 4, 5]),
    add(7, [0, 0, 0, 1, 1, 2, 9, 9]),
    add(3, [0, 0, 4, 1, 4, 0]),
    add(5, [1, 0, 2, 7]),
    add(1, [0, 0, 2, 1, 7, 1, 8]),
]


class TheDocumentsExample(unittest.TestCase):
    def test_answers_told_there(self):
        asked = [needs(1), neededby(7), FRONTS, FORM, COUNT, kth(0), RANK, order([3, 1, 5, 7]), order([5, 7, 1, 3]),
                 pick([1]), drop(7), drop(5), OUTCOME,
                 equal([3, 3, 0, 0, 3, 1, 4, 0, 7, 0, 0, 0, 1, 1, 2, 9, 9, 1, 0, 0, 2, 1, 2, 1, 8])]
        self.assertEqual(ask(*ADDED, *asked), [
            [1], [0], [1], [2], [3],
            [1, 7], [1, 1], [3, 3, 5, 7],
            [4, 3, 0, 0, 3, 1, 4, 0, 5, 1, 0, 2, 7, 7, 0, 0, 0, 1, 1, 2, 9, 9, 1, 0, 0, 2, 1, 7, 1, 8],
            [12], [1, 4, 3, 5, 7, 1], [9],
            [0, 1], [1], [1, 2, 7, 1],
            [0, 1, 1], [1, 3], [1, 0, 5, 9, 9, 8, 3, 5], [1],
        ])

    def test_same_answers_number_by_number(self):
        line = sum(ADDED, []) + [4, 1, 5, 7, 6]
        self.assertEqual(answers(line), [1, 1, 1, 0, 1, 1, 1, 2, 1, 3, 2, 1, 7, 2, 1, 1, 4, 3, 3, 5, 7])

    def test_row_stands_as_it_was_added_and_its_outcome(self):
        row = [4, 7, 0, 0, 0, 1, 1, 2, 9, 9, 3, 0, 0, 4, 1, 4, 0, 5, 1, 0, 2, 7, 1, 0, 0, 2, 1, 7, 1, 8]
        self.assertEqual(ask(*ADDED, FORM, ROW, OUTCOME)[-2:], [row, [1, 0, 5, 9, 9, 8, 3, 5]])
