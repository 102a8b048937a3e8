import unittest

from tests.lines import FAR, FRONTS, OUTCOME, ROW, FORM, add, added, ask, files, last, tree

SIX = {0: [], 2: [1], 3: [99] * 12, 5: [0], 8: [7, 7], 9: []}

WHOLE = {
    "no file": [0],
    "an empty file": [1, 0, 0],
    "the last name": [1, 9, 0],
    "the first and the last token": [1, 4, 2, 0, 99],
    "twelve tokens": [1, 4, 12] + [5] * 12,
    "six files": files(SIX),
    "six full files": files({name: [name] * 12 for name in range(6)}),
    "names that rise with gaps": [2, 1, 0, 7, 1, 3],
}

NOT_WHOLE = {
    "no number": [],
    "a file is missing": [1],
    "the count of tokens is missing": [1, 0],
    "a token is missing": [1, 0, 2, 5],
    "the second file is missing": [2, 0, 1, 5],
    "left over behind no file": [0, 0],
    "left over behind a file": [1, 0, 1, 5, 5],
    "left over behind six files": files(SIX) + [0],
    "a count of files below 0": [-1],
    "a count of tokens below 0": [1, 0, -1],
    "a count of tokens below 0 that the next file would fit": [2, 0, -1, 1, 0],
    "seven files": files({name: [] for name in range(7)}),
    "thirteen tokens": [1, 0, 13] + [5] * 13,
    "a name below 0": [1, -1, 0],
    "a name above 9": [1, 10, 0],
    "a token below 0": [1, 0, 1, -1],
    "a token above 99": [1, 0, 1, 100],
    "a name told twice": [2, 3, 0, 3, 0],
    "names that fall": [2, 3, 0, 2, 0],
    "names that fall at the end": [3, 1, 0, 5, 0, 4, 0],
    "as many files as can be told": [FAR],
    "as few files as can be told": [-FAR],
    "a name far out": [1, FAR, 0],
    "a name far below": [1, -FAR, 0],
    "as many tokens as can be told": [1, 0, FAR],
    "as few tokens as can be told": [1, 0, -FAR],
    "a token far out": [1, 0, 1, FAR],
    "a token far below": [1, 0, 1, -FAR],
    "a hundred numbers": [6] + [0] * 99,
}


class Tree(unittest.TestCase):
    def test_whole_trees_are_taken(self):
        for told, numbers in WHOLE.items():
            with self.subTest(told):
                self.assertEqual(ask(tree(numbers), OUTCOME, ROW), [[numbers[0]], numbers, [0]])

    def test_what_is_not_whole_is_refused(self):
        for told, numbers in NOT_WHOLE.items():
            with self.subTest(told):
                self.assertEqual(ask(tree(numbers)), [[-1]])

    def test_a_refused_tree_is_no_tree(self):
        for told, numbers in NOT_WHOLE.items():
            with self.subTest(told):
                self.assertEqual(last(tree(numbers), OUTCOME), [-8])

    def test_a_refused_tree_changes_nothing(self):
        for told, numbers in NOT_WHOLE.items():
            with self.subTest(told):
                found = ask(tree([1, 3, 1, 4]), add(6, added(5)), tree(numbers), ROW, OUTCOME, FRONTS, add(7, added(6)))
                self.assertEqual(found[2:], [[-1], [1, 6, 2, 5], [2, 3, 1, 4, 5, 0], [1, 6], [1]])

    def test_a_taken_tree_empties_the_row(self):
        found = ask(tree([1, 3, 0]), add(6, added(5)), tree([2, 4, 1, 9, 5, 0]), ROW, OUTCOME, FRONTS, FORM)
        self.assertEqual(found[2:], [[2], [0], [2, 4, 1, 9, 5, 0], [0], [0]])

    def test_a_taken_tree_frees_the_names_of_patches(self):
        self.assertEqual(ask(tree([0]), add(6, added(5)), tree([0]), add(6, added(5))), [[0], [0], [0], [0]])
