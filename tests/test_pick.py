import itertools
import unittest

from tests.lines import (COUNT, FAR, FORM, FRONTS, OUTCOME, RANK, ROW, add, added, adds, ask, files, hunk, last, moved,
                         patches, pick, removed, swap, tree)

TEXT = [10, 11, 12, 13, 14, 15, 16, 17]
STATE = [ROW, OUTCOME, FRONTS, FORM, COUNT, RANK]
CHAINS = [(1, added(0)), (3, added(1)), (5, added(2)), (2, swap(0, 1, 2)), (4, swap(1, 1, 2)), (6, removed(2))]
TEXTS = [(1, hunk(0, 0, [10], [1, 2])), (2, swap(0, 1, 15)), (3, hunk(0, 3, [12], [])), (4, moved(0, 8)),
         (5, hunk(8, 5, [1], [15]))]

# Each: the files, the row, the names, those that are picked, the row as it stands then.
PICKED = {
    "none of no patch": ({}, [], [], [], []),
    "none": ({}, CHAINS, [], [], CHAINS),
    "the only one": ({}, CHAINS[:1], [1], [1], CHAINS[:1]),
    "the first one": ({}, CHAINS, [1], [1], CHAINS),
    "one from the middle": (
        {}, CHAINS, [5], [5], [CHAINS[2], CHAINS[0], CHAINS[1], CHAINS[3], CHAINS[4], CHAINS[5]]),
    "one with what it needs": (
        {}, CHAINS, [4], [3, 4], [CHAINS[1], CHAINS[4], CHAINS[0], CHAINS[2], CHAINS[3], CHAINS[5]]),
    "several in another order than they stand in": (
        {}, CHAINS, [5, 3], [3, 5], [CHAINS[1], CHAINS[2], CHAINS[0], CHAINS[3], CHAINS[4], CHAINS[5]]),
    "several with what they need": (
        {}, CHAINS, [6, 2], [1, 5, 2, 6], [CHAINS[0], CHAINS[2], CHAINS[3], CHAINS[5], CHAINS[1], CHAINS[4]]),
    "names that need one another": (
        {}, CHAINS, [4, 3], [3, 4], [CHAINS[1], CHAINS[4], CHAINS[0], CHAINS[2], CHAINS[3], CHAINS[5]]),
    "names that need the same one": (
        {0: []}, [(9, swap(0, 8, 9)), (1, swap(0, 1, 2)), (2, swap(0, 1, 3)), (3, swap(0, 2, 4))], [3, 2], [1, 2, 3],
        [(1, swap(0, 1, 2)), (2, swap(0, 1, 3)), (3, swap(0, 2, 4)), (9, swap(0, 8, 9))]),
    "by way of a third": (
        {0: []}, [(9, swap(0, 8, 9)), (1, swap(0, 1, 2)), (2, swap(0, 2, 3)), (3, swap(0, 3, 4))], [3], [1, 2, 3],
        [(1, swap(0, 1, 2)), (2, swap(0, 2, 3)), (3, swap(0, 3, 4)), (9, swap(0, 8, 9))]),
    "all": ({}, CHAINS, [6, 5, 4, 3, 2, 1], [1, 3, 5, 2, 4, 6], CHAINS),
    "places, tokens and files that change": (
        {0: TEXT}, TEXTS, [5], [5],
        [(5, hunk(0, 5, [15], [1])), (1, hunk(0, 0, [10], [1, 2])), (2, swap(0, 1, 15)), (3, hunk(0, 3, [12], [])),
         (4, moved(0, 8))]),
    "two in front of others that change": (
        {0: TEXT}, TEXTS, [4, 2], [2, 4],
        [(2, swap(0, 1, 15)), (4, moved(0, 8)), (1, hunk(8, 0, [10], [15, 2])), (3, hunk(8, 3, [12], [])),
         (5, hunk(8, 5, [1], [15]))]),
}


class Pick(unittest.TestCase):
    def test_what_is_picked_stands_in_front(self):
        for told, (start, row, names, picked, then) in PICKED.items():
            with self.subTest(told):
                calls = [OUTCOME, FORM, pick(names), ROW, OUTCOME, FORM]
                found = ask(tree(files(start)), *adds(row), *calls)[1 + len(row):]
                self.assertEqual(found[2:4], [[1, len(picked)] + picked, patches(then)])
                self.assertEqual(found[4:], found[:2])

    def test_picked_once_more_it_stays(self):
        for told, (start, row, names, picked, then) in PICKED.items():
            with self.subTest(told):
                found = ask(tree(files(start)), *adds(row), pick(names), ROW, pick(names), ROW)[1 + len(row):]
                self.assertEqual(found[2:], found[:2])

    def test_the_order_in_which_names_are_told_makes_no_odds(self):
        for names in itertools.permutations([6, 2, 5]):
            with self.subTest(names):
                found = ask(tree([0]), *adds(CHAINS), pick(list(names)), ROW)[-2:]
                self.assertEqual(found, [[1, 4, 1, 5, 2, 6], patches([CHAINS[k] for k in (0, 2, 3, 5, 1, 4)])])

    def test_ten_patches(self):
        row = [(name, added(name)) for name in range(10)]
        found = ask(tree([0]), *adds(row), pick([9, 4, 7]), ROW, pick(list(range(10))))[-3:]
        then = [row[k] for k in (4, 7, 9, 0, 1, 2, 3, 5, 6, 8)]
        names = [name for name, step in then]
        self.assertEqual(found, [[1, 3, 4, 7, 9], patches(then), [1, 10] + names])

    def test_add_stands_behind_the_row_as_it_is_then(self):
        start, row, names, picked, then = PICKED["places, tokens and files that change"]
        step = hunk(8, 0, [15], [])
        found = ask(tree(files(start)), *adds(row), pick(names), add(50, step), ROW, add(5, added(0)))
        self.assertEqual(found[-3:], [[5], patches(then + [(50, step)]), [-3]])


class Refused(unittest.TestCase):
    def refused(self, row, names):
        found = ask(tree([0]), *adds(row), *STATE, pick(names), *STATE)
        self.assertEqual(found[-len(STATE) - 1], [-2])
        self.assertEqual(found[-len(STATE):], found[-2 * len(STATE) - 1:-len(STATE) - 1])

    def test_a_name_that_no_patch_has(self):
        for name in (0, 7, 99, 100, -1, FAR, -FAR):
            with self.subTest(name):
                self.refused(CHAINS, [name])
                self.refused(CHAINS, [name, 5])
                self.refused(CHAINS, [6, 5, name])
                self.refused([], [name])

    def test_a_name_told_twice(self):
        self.refused(CHAINS, [5, 5])
        self.refused(CHAINS, [6, 5, 6])
        self.refused(CHAINS, [1, 2, 3, 4, 5, 6, 1])

    def test_twelve_names(self):
        row = [(name, added(name)) for name in range(10)]
        self.refused(row, list(range(12)))
        self.refused(row, list(range(10)) + [0, 1])

    def test_a_name_that_is_gone(self):
        self.assertEqual(last(tree([0]), add(5, added(1)), tree([0]), pick([5])), [-2])
