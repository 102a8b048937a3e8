import unittest

from tests.lines import (COUNT, FAR, FORM, FRONTS, OUTCOME, RANK, ROW, add, added, adds, ask, drop, equal, files, hunk,
                         last, moved, order, patches, removed, swap, tree)
from tests.test_against_search import equal_rows

TEXT = [10, 11, 12, 13, 14, 15, 16, 17]
STATE = [ROW, OUTCOME, FRONTS, FORM, COUNT, RANK]

ROWS = {
    "hunks, a swap and a move": ({0: TEXT}, [
        (5, hunk(0, 0, [10], [1, 2])), (6, swap(0, 1, 15)), (4, moved(0, 8)), (1, hunk(8, 6, [1], []))]),
    "files": ({1: []}, [(3, removed(1)), (2, added(0)), (9, moved(0, 1)), (8, added(5)), (7, swap(5, 1, 2))]),
    "a chain": ({0: TEXT}, [(3, swap(0, 1, 2)), (2, swap(0, 2, 3)), (1, swap(0, 3, 4))]),
    "one patch": ({}, [(0, added(0))]),
    "no patch": ({0: [5]}, []),
}

# Each: the files, a row, and one with the same names and the same outcome that isn't equal to it.
OTHERS = {
    "two names changed about": ({}, [(1, added(0)), (2, added(1))], [(1, added(1)), (2, added(0))]),
    "two that don't commute": (
        {0: []}, [(1, hunk(0, 0, [], [5])), (2, hunk(0, 0, [], [5]))],
        [(2, hunk(0, 0, [], [5])), (1, hunk(0, 0, [], [5]))]),
    "the same tokens put in elsewhere": ({0: [5, 5, 5]}, [(1, hunk(0, 0, [], [5]))], [(1, hunk(0, 3, [], [5]))]),
    "a longer hunk": ({0: [5, 6]}, [(1, hunk(0, 1, [6], []))], [(1, hunk(0, 0, [5, 6], [5]))]),
    "a swap and a hunk": ({0: [5]}, [(1, swap(0, 5, 6))], [(1, hunk(0, 0, [5], [6]))]),
    "a swap with its tokens told the other way round": ({0: [5]}, [(1, swap(0, 5, 6))], [(1, swap(0, 6, 5))]),
    "two swaps that take back one another": (
        {0: [5]}, [(1, swap(0, 5, 6)), (2, swap(0, 5, 6))], [(2, swap(0, 5, 6)), (1, swap(0, 5, 6))]),
    "moved by other ways": ({0: []}, [(1, moved(0, 3)), (2, moved(3, 4))], [(1, moved(0, 5)), (2, moved(5, 4))]),
    "a step that changes nothing": ({0: [5]}, [(1, swap(0, 8, 9))], [(1, hunk(0, 0, [5], [5]))]),
}

START = {0: TEXT, 1: []}
WHOLE = [(7, hunk(0, 1, [11], [5])), (3, swap(0, 12, 5)), (99, added(6)), (0, removed(1))]
WHOLE_NUMBERS = patches(WHOLE)
TEN = [(name, hunk(1, 0, [], [name])) for name in range(10)]

# From START on none of them is whole a row of patches.
NO_ROW = {
    "no number": [],
    "a count alone": [1],
    "a name alone": [1, 5],
    "the second patch is missing": [2, 5] + added(4),
    "a step is missing": [2, 5] + added(4) + [6],
    "a number less": WHOLE_NUMBERS[:-1],
    "left over behind no patch": [0, 0],
    "left over behind a patch": patches([(5, added(4))]) + [0],
    "left over behind a row": WHOLE_NUMBERS + [99],
    "a patch left over": [1, 5] + added(4) + [6] + added(5),
    "left over behind ten": patches(TEN) + [10] + added(4),
    "a count below 0": [-1],
    "a count below 0 and a patch": [-1, 5] + added(4),
    "a count of 11": patches(TEN + [(10, added(4))]),
    "a count of 11 alone": [11],
    "a count far out": [FAR] + WHOLE_NUMBERS[1:],
    "a count far below": [-FAR] + WHOLE_NUMBERS[1:],
    "a name below 0": patches([(-1, added(4))]),
    "a name above 99": patches([(100, added(4))]),
    "a name far out": patches([(FAR, added(4))]),
    "a name far below": patches([(-FAR, added(4))]),
    "a name told twice": patches([(5, added(4)), (5, added(6))]),
    "a name told twice, not one behind the other": patches([(5, added(4)), (6, added(6)), (5, added(7))]),
    "no such kind": [1, 5, 5, 4],
    "a kind below 0": [1, 5, -1, 4],
    "a kind far out": [1, 5, FAR, 4],
    "a file above 9": patches([(5, added(10))]),
    "a file below 0": patches([(5, added(-1))]),
    "a file far out": patches([(5, swap(FAR, 1, 2))]),
    "a swap of alike tokens": patches([(5, swap(0, 1, 1))]),
    "a token above 99": patches([(5, swap(0, 1, 100))]),
    "a token far out": patches([(5, hunk(0, 0, [], [FAR]))]),
    "a move to its own name": patches([(5, moved(0, 0))]),
    "a hunk of both none": patches([(5, hunk(0, 0, [], []))]),
    "a hunk with nine tokens": patches([(5, hunk(0, 0, [], [1] * 9))]),
    "a hunk with old ones far out": [1, 5, 0, 0, 0, FAR, 1],
    "a hunk with new ones far out": [1, 5, 0, 0, 0, 0, FAR, 1],
    "a hunk with old ones below 0": [1, 5, 0, 0, 0, -1, 1, 5],
    "a hunk at a place below 0": patches([(5, hunk(0, -1, [], [1]))]),
    "a hunk at a place far out": patches([(5, hunk(0, FAR, [], [1]))]),
    "a hunk beyond the end": patches([(5, hunk(0, 9, [], [1]))]),
    "other old tokens": patches([(5, hunk(0, 0, [11], [1]))]),
    "in no file": patches([(5, swap(2, 1, 2))]),
    "added, but it's there": patches([(5, added(0))]),
    "removed, but not empty": patches([(5, removed(0))]),
    "moved to a name that's there": patches([(5, moved(0, 1))]),
    "a second step that fits the tree alone": patches([(5, hunk(0, 0, [10], [1])), (6, hunk(0, 0, [10], [2]))]),
    "a second step that doesn't fit": patches([(5, added(4)), (6, added(4))]),
    "a last step that doesn't fit": patches(WHOLE + [(50, removed(1))]),
    "three hundred numbers": [10] + [0] * 299,
    "three hundred numbers far out": [FAR] * 300,
}


class Equal(unittest.TestCase):
    def asked(self, start, row, numbers):
        return last(tree(files(start)), *adds(row), equal(numbers))

    def test_the_row_itself(self):
        for told, (start, row) in ROWS.items():
            with self.subTest(told):
                self.assertEqual(self.asked(start, row, patches(row)), [1])

    def test_each_equal_row(self):
        for told, (start, row) in ROWS.items():
            for then in equal_rows(row).values():
                with self.subTest((told, then)):
                    self.assertEqual(self.asked(start, row, patches(then)), [1])
                    self.assertEqual(self.asked(start, then, patches(row)), [1])

    def test_rows_with_the_same_names_and_outcome(self):
        for told, (start, row, other) in OTHERS.items():
            with self.subTest(told):
                first, second = [last(tree(files(start)), *adds(each), OUTCOME) for each in (row, other)]
                self.assertEqual(first, second)
                self.assertEqual(self.asked(start, row, patches(other)), [0])
                self.assertEqual(self.asked(start, other, patches(row)), [0])

    def test_the_same_steps_with_other_names(self):
        self.assertEqual(self.asked({}, [(1, added(0))], patches([(2, added(0))])), [0])

    def test_the_same_patches_with_an_other_outcome(self):
        row = [(1, hunk(0, 0, [], [5])), (2, hunk(0, 0, [], [6]))]
        self.assertEqual(self.asked({0: []}, row, patches(row[::-1])), [0])

    def test_an_order_of_equal_rows_with_steps_as_they_were(self):
        row = [(1, hunk(0, 0, [], [5])), (2, hunk(0, 3, [], [5]))]
        self.assertEqual(self.asked({0: TEXT}, row, patches(row[::-1])), [0])
        self.assertEqual(self.asked({0: TEXT}, row, patches([(2, hunk(0, 2, [], [5])), row[0]])), [1])

    def test_the_empty_row(self):
        self.assertEqual(self.asked({}, [], [0]), [1])
        self.assertEqual(self.asked({}, [], patches([(5, added(4))])), [0])
        self.assertEqual(self.asked({}, [(5, added(4))], [0]), [0])

    def test_fewer_and_more_patches(self):
        row = [(5, added(4)), (6, added(5)), (7, added(6))]
        self.assertEqual(self.asked({}, row[:2], patches(row)), [0])
        self.assertEqual(self.asked({}, row, patches(row[:2])), [0])

    def test_ten_patches(self):
        self.assertEqual(self.asked(START, TEN, patches(TEN)), [1])
        apart = [(name, added(name)) for name in range(10)]
        self.assertEqual(self.asked({}, apart, patches(apart[::-1])), [1])

    def test_the_least_and_the_most_name(self):
        row = [(0, added(0)), (99, added(1))]
        self.assertEqual(self.asked({}, row, patches(row[::-1])), [1])

    def test_as_many_numbers_as_ten_patches_can_have(self):
        long_row = [(90 + k, hunk(0, 0, [k] * 8, [k + 1] * 8)) for k in range(10)]
        self.assertEqual(len(patches(long_row)), 221)
        self.assertEqual(self.asked({0: [0] * 8}, long_row, patches(long_row)), [1])

    def test_it_is_held_against_the_row_as_it_is_then(self):
        row = [(1, hunk(0, 0, [], [5])), (2, hunk(0, 3, [], [5])), (3, added(4))]
        calls = [tree(files({0: TEXT})), *adds(row), order([3, 2, 1]), drop(1), equal(patches(row[:2]))]
        self.assertEqual(last(*calls), [0])
        self.assertEqual(last(*calls, equal(patches([(2, hunk(0, 2, [], [5])), row[2]]))), [1])


class NoRow(unittest.TestCase):
    def test_what_is_whole(self):
        for row in (WHOLE, TEN, []):
            self.assertEqual(last(tree(files(START)), *adds(row), equal(patches(row))), [1])

    def test_it_is_refused(self):
        for told, numbers in NO_ROW.items():
            with self.subTest(told):
                self.assertEqual(last(tree(files(START)), equal(numbers)), [-5])

    def test_it_is_refused_whatever_the_row_is(self):
        for told, numbers in NO_ROW.items():
            for row in (WHOLE, TEN, [(5, added(4))]):
                with self.subTest((told, row)):
                    self.assertEqual(last(tree(files(START)), *adds(row), equal(numbers)), [-5])

    def test_it_begins_with_the_tree_and_not_with_the_outcome(self):
        calls = [tree([0]), add(1, added(0))]
        self.assertEqual(last(*calls, equal(patches([(2, swap(0, 1, 2))]))), [-5])
        self.assertEqual(last(*calls, equal(patches([(2, added(0))]))), [0])


class NothingChanges(unittest.TestCase):
    def stays(self, start, row, numbers):
        found = ask(tree(files(start)), *adds(row), *STATE, equal(numbers), *STATE)
        self.assertEqual(found[-len(STATE):], found[-2 * len(STATE) - 1:-len(STATE) - 1])

    def test_behind_equal_rows_and_others(self):
        for told, (start, row) in ROWS.items():
            for then in equal_rows(row).values():
                with self.subTest((told, then)):
                    self.stays(start, row, patches(then))
        for told, (start, row, other) in OTHERS.items():
            with self.subTest(told):
                self.stays(start, row, patches(other))

    def test_behind_refusals(self):
        for told, numbers in NO_ROW.items():
            with self.subTest(told):
                self.stays(START, WHOLE, numbers)

    def test_what_is_told_there_is_not_in_the_row(self):
        calls = [tree([0]), equal(patches([(5, added(4))])), ROW, add(5, added(4)), ROW]
        self.assertEqual(ask(*calls)[1:], [[0], [0], [0], [1, 5, 2, 4]])
