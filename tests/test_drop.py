import unittest

from tests.lines import (COUNT, FAR, FORM, FRONTS, OUTCOME, RANK, ROW, add, added, adds, ask, drop, files, hunk, last,
                         moved, needs, order, patches, pick, removed, swap, tree)

TEXT = [10, 11, 12, 13, 14, 15, 16, 17]
STATE = [ROW, OUTCOME, FRONTS, FORM, COUNT, RANK]
CHAIN = [(30, added(1)), (20, added(0)), (9, hunk(0, 0, [], [5, 6, 7])), (50, swap(1, 1, 2)), (4, hunk(0, 1, [6], []))]

# Each: the files, the row, the name, the row as it stands then, its outcome.
OUT = {
    "the only one": ({0: [5]}, [(5, hunk(0, 0, [5], []))], 5, [], {0: [5]}),
    "the first one": ({}, [(5, added(0)), (6, added(1))], 5, [(6, added(1))], {1: []}),
    "the last one": ({}, [(5, added(0)), (6, swap(0, 1, 2))], 6, [(5, added(0))], {0: []}),
    "one of the middle": (
        {}, [(5, added(0)), (6, added(1)), (7, swap(0, 1, 2))], 6, [(5, added(0)), (7, swap(0, 1, 2))], {0: []}),
    "one that needs others": (
        {}, CHAIN, 50, CHAIN[:3] + CHAIN[4:], {0: [5, 7], 1: []}),
    "places that change": (
        {0: TEXT}, [(1, hunk(0, 0, [10], [1, 2, 3])), (2, hunk(0, 5, [13], [])), (3, hunk(0, 8, [], [4]))], 1,
        [(2, hunk(0, 3, [13], [])), (3, hunk(0, 6, [], [4]))], {0: [10, 11, 12, 14, 15, 16, 4, 17]}),
    "those ahead of it stay": (
        {0: TEXT}, [(2, hunk(0, 3, [13], [])), (1, hunk(0, 0, [10], [1, 2, 3])), (3, hunk(0, 8, [], [4]))], 1,
        [(2, hunk(0, 3, [13], [])), (3, hunk(0, 6, [], [4]))], {0: [10, 11, 12, 14, 15, 16, 4, 17]}),
    "tokens that change": (
        {0: TEXT}, [(1, swap(0, 11, 12)), (2, hunk(0, 1, [12], [11, 5]))], 1,
        [(2, hunk(0, 1, [11], [12, 5]))], {0: [10, 12, 5, 12, 13, 14, 15, 16, 17]}),
    "files that change": (
        {0: [1, 2]}, [(1, moved(0, 8)), (2, hunk(8, 0, [1], [])), (3, swap(8, 2, 3)), (4, added(9))], 1,
        [(2, hunk(0, 0, [1], [])), (3, swap(0, 2, 3)), (4, added(9))], {0: [3], 9: []}),
    "the patch itself changes on its way": (
        {0: TEXT}, [(1, hunk(0, 4, [14], [1])), (2, hunk(0, 0, [10], [])), (3, swap(0, 1, 2)), (4, moved(0, 8)),
                    (5, hunk(8, 5, [16], []))], 1,
        [(2, hunk(0, 0, [10], [])), (3, swap(0, 1, 2)), (4, moved(0, 8)), (5, hunk(8, 5, [16], []))],
        {8: [11, 12, 13, 14, 15, 17]}),
}

# Each: the files, the row, the name, the patches that need it as they stand.
NEEDED = {
    "by the next one": ({}, [(5, added(0)), (6, swap(0, 1, 2))], 5, [6]),
    "by way of others": ({}, CHAIN, 20, [9, 4]),
    "by the last one alone": ({}, CHAIN, 9, [4]),
    "by one that is free of it by itself": (
        {0: []}, [(1, swap(0, 1, 2)), (2, swap(0, 2, 3)), (3, swap(0, 3, 4))], 1, [2, 3]),
    "by several, not by size": (
        {0: []}, [(7, swap(0, 1, 2)), (8, swap(0, 3, 4)), (6, swap(0, 2, 5)), (2, swap(0, 3, 8)), (5, swap(0, 1, 6))],
        7, [6, 5]),
    "by one behind others that aren't": (
        {0: TEXT}, [(1, hunk(0, 4, [14], [1])), (2, hunk(0, 0, [], [2, 3, 4, 5])), (3, hunk(0, 9, [15], []))], 1, [3]),
}


class Drop(unittest.TestCase):
    def test_it_is_taken_out(self):
        for told, (start, row, name, then, outcome) in OUT.items():
            with self.subTest(told):
                found = ask(tree(files(start)), *adds(row), drop(name), ROW, OUTCOME, drop(name), ROW)[1 + len(row):]
                self.assertEqual(found, [[1, len(then)], patches(then), files(outcome), [-2], patches(then)])

    def test_it_is_needed(self):
        for told, (start, row, name, needing) in NEEDED.items():
            with self.subTest(told):
                found = ask(tree(files(start)), *adds(row), *STATE, drop(name), *STATE)
                self.assertEqual(found[-len(STATE) - 1], [0, len(needing)] + needing)
                self.assertEqual(found[-len(STATE):], found[-2 * len(STATE) - 1:-len(STATE) - 1])

    def test_it_can_be_when_those_that_need_it_are_out(self):
        for told, (start, row, name, needing) in NEEDED.items():
            with self.subTest(told):
                calls = [drop(each) for each in reversed(needing)]
                found = ask(tree(files(start)), *adds(row), *calls, drop(name))[1 + len(row):]
                count = len(row)
                self.assertEqual(found, [[1, count - 1 - k] for k in range(len(needing) + 1)])

    def test_no_patch_of_this_name(self):
        for name in (0, 5, 99, 100, -1, FAR, -FAR):
            with self.subTest(name):
                self.assertEqual(last(tree([0]), drop(name)), [-2])
                found = ask(tree([0]), *adds(CHAIN), *STATE, drop(name), *STATE)
                self.assertEqual(found[-len(STATE) - 1], [-2])
                self.assertEqual(found[-len(STATE):], found[-2 * len(STATE) - 1:-len(STATE) - 1])

    def test_a_name_that_is_gone(self):
        self.assertEqual(last(tree([0]), add(5, added(1)), tree([0]), drop(5)), [-2])
        self.assertEqual(ask(tree([0]), add(5, added(1)), drop(5), needs(5), order([5]), pick([5]), order([]))[2:],
                         [[1, 0], [-2], [-2], [-2], [1]])


class Behind(unittest.TestCase):
    def test_the_name_can_be_used_again(self):
        for told, (start, row, name, then, outcome) in OUT.items():
            with self.subTest(told):
                found = ask(tree(files(start)), *adds(row), add(name, added(7)), drop(name), add(name, added(7)), ROW)
                self.assertEqual(found[1 + len(row):],
                                 [[-3], [1, len(then)], [len(then)], patches(then + [(name, added(7))])])

    def test_there_is_room_again_behind_ten(self):
        row = [(name, added(name)) for name in range(10)]
        found = ask(tree([0]), *adds(row), add(10, removed(3)), drop(4), add(10, removed(3)), add(11, added(3)))
        self.assertEqual(found[11:], [[-6], [1, 9], [9], [-6]])

    def test_a_step_is_held_against_the_tree_that_comes_of_the_row_then(self):
        start, row, name, then, outcome = OUT["files that change"]
        calls = [tree(files(start)), *adds(row)]
        self.assertEqual(ask(*calls, add(60, hunk(8, 0, [3], [])), drop(name), OUTCOME)[-3:],
                         [[4], [1, 4], [2, 0, 0, 9, 0]])
        self.assertEqual(ask(*calls, drop(name), add(60, hunk(8, 0, [3], [])), add(60, hunk(0, 0, [3], [])), ROW)[-3:],
                         [[-4], [3], patches(then + [(60, hunk(0, 0, [3], []))])])

    def test_drop_behind_pick_and_order(self):
        row = [(7, hunk(0, 0, [10], [9, 9])), (3, hunk(0, 4, [13], [])), (5, swap(0, 11, 60))]
        calls = [order([5, 3, 7]), pick([7]), drop(5), ROW, OUTCOME, drop(7), ROW]
        self.assertEqual(ask(tree(files({0: TEXT})), *adds(row), *calls)[4:], [
            [1], [1, 1, 7], [1, 2], patches([(7, hunk(0, 0, [10], [9, 9])), (3, hunk(0, 4, [13], []))]),
            files({0: [9, 9, 11, 12, 14, 15, 16, 17]}), [1, 1], patches([(3, hunk(0, 3, [13], []))])])
