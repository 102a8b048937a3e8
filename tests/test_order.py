import itertools
import unittest

from tests.lines import (COUNT, FAR, FORM, FRONTS, OUTCOME, RANK, ROW, add, added, adds, ask, files, hunk, last, moved,
                         needs, order, patches, removed, swap, tree)
from tests.test_against_search import equal_rows

TEXT = [10, 11, 12, 13, 14, 15, 16, 17]
STATE = [ROW, OUTCOME, FRONTS, FORM, COUNT, RANK]

# Each: the files, the row, the order, the row as it stands then.
PUT = {
    "no patch": ({}, [], [], []),
    "one patch": ({}, [(5, added(0))], [5], [(5, added(0))]),
    "as it stands": (
        {}, [(5, added(0)), (4, swap(0, 1, 2))], [5, 4], [(5, added(0)), (4, swap(0, 1, 2))]),
    "a place that gets lower": (
        {0: TEXT}, [(1, hunk(0, 1, [11], [1, 2, 3])), (2, hunk(0, 5, [13], [4]))], [2, 1],
        [(2, hunk(0, 3, [13], [4])), (1, hunk(0, 1, [11], [1, 2, 3]))]),
    "a place that gets higher": (
        {0: TEXT}, [(1, hunk(0, 4, [14], [1])), (2, hunk(0, 1, [11], [2, 3]))], [2, 1],
        [(2, hunk(0, 1, [11], [2, 3])), (1, hunk(0, 5, [14], [1]))]),
    "tokens that change": (
        {0: TEXT}, [(1, hunk(0, 1, [11], [12, 5])), (2, swap(0, 11, 12))], [2, 1],
        [(2, swap(0, 11, 12)), (1, hunk(0, 1, [12], [11, 5]))]),
    "a file that changes": (
        {0: TEXT}, [(1, hunk(0, 1, [11], [5])), (2, swap(0, 13, 14)), (3, moved(0, 8))], [3, 2, 1],
        [(3, moved(0, 8)), (2, swap(8, 13, 14)), (1, hunk(8, 1, [11], [5]))]),
    "all of them at once": (
        {0: TEXT}, [(5, hunk(0, 0, [10], [1, 2])), (6, swap(0, 1, 15)), (4, moved(0, 8)), (1, hunk(8, 6, [1], []))],
        [1, 4, 5, 6],
        [(1, hunk(0, 5, [15], [])), (4, moved(0, 8)), (5, hunk(8, 0, [10], [1, 2])), (6, swap(8, 1, 15))]),
    "two chains through one another": (
        {}, [(1, added(0)), (2, swap(0, 1, 2)), (3, added(1)), (4, swap(1, 1, 2))], [3, 1, 4, 2],
        [(3, added(1)), (1, added(0)), (4, swap(1, 1, 2)), (2, swap(0, 1, 2))]),
}

# Each: the files, the row, the order, how many could be brought to their places.
NOT_PUT = {
    "the first one at once": ({}, [(5, added(0)), (4, swap(0, 1, 2))], [4, 5], 0),
    "the second": ({}, [(5, added(0)), (4, swap(0, 1, 2)), (3, added(1))], [3, 4, 5], 1),
    "the third": ({}, [(5, added(0)), (4, swap(0, 1, 2)), (3, added(1)), (2, swap(1, 1, 2))], [5, 4, 2, 3], 2),
    "one that needs another by way of a third": (
        {0: TEXT}, [(1, swap(0, 1, 2)), (2, swap(0, 2, 3)), (3, swap(0, 3, 4))], [1, 3, 2], 1),
    "those behind it that could be are not counted": (
        {}, [(5, added(0)), (4, swap(0, 1, 2)), (3, added(1)), (2, added(2))], [3, 4, 2, 5], 1),
    "all but the last two": (
        {}, [(1, added(0)), (2, added(1)), (3, added(2)), (4, removed(2))], [2, 1, 4, 3], 2),
    "though it's put round on its way": (
        {0: TEXT}, [(1, hunk(0, 1, [11], [5, 6])), (2, moved(0, 8)), (3, hunk(8, 2, [6], []))], [2, 3, 1], 1),
}

ROW_TOLD = [(1, added(0)), (2, swap(0, 1, 2)), (3, added(1))]


class Order(unittest.TestCase):
    def test_it_is_put_into_the_order(self):
        for told, (start, row, names, then) in PUT.items():
            with self.subTest(told):
                calls = [OUTCOME, FORM, order(names), ROW, OUTCOME, FORM]
                found = ask(tree(files(start)), *adds(row), *calls)[1 + len(row):]
                self.assertEqual(found[2:4], [[1], patches(then)])
                self.assertEqual(found[4:], found[:2])

    def test_and_back(self):
        for told, (start, row, names, then) in PUT.items():
            with self.subTest(told):
                was = [name for name, step in row]
                self.assertEqual(last(tree(files(start)), *adds(row), order(names), order(was), ROW), patches(row))

    def test_what_cannot_be(self):
        for told, (start, row, names, count) in NOT_PUT.items():
            with self.subTest(told):
                found = ask(tree(files(start)), *adds(row), *STATE, order(names), *STATE)
                self.assertEqual(found[-len(STATE) - 1], [0, count])
                self.assertEqual(found[-len(STATE):], found[-2 * len(STATE) - 1:-len(STATE) - 1])

    def test_every_order_of_some_rows(self):
        for told, (start, row, names, count) in NOT_PUT.items():
            rows = equal_rows(row)
            for each in itertools.permutations([name for name, step in row]):
                with self.subTest((told, each)):
                    found = ask(tree(files(start)), *adds(row), order(list(each)), ROW)[-2:]
                    if each in rows:
                        self.assertEqual(found, [[1], patches(rows[each])])
                    else:
                        self.assertEqual(found, [[0, self.brought(each, rows)], patches(row)])

    def brought(self, names, rows):
        """How many names it begins with as some equal row does."""
        return max(k for k in range(len(names)) if any(order_then[:k] == names[:k] for order_then in rows))


class Refused(unittest.TestCase):
    def refused(self, number, row, names):
        found = ask(tree([0]), *adds(row), *STATE, order(names), *STATE)
        self.assertEqual(found[-len(STATE) - 1], [number])
        self.assertEqual(found[-len(STATE):], found[-2 * len(STATE) - 1:-len(STATE) - 1])

    def test_a_name_that_no_patch_has(self):
        for name in (0, 4, 99, 100, -1, FAR, -FAR):
            with self.subTest(name):
                self.refused(-2, ROW_TOLD, [1, 2, name])
                self.refused(-2, ROW_TOLD, [name, 1, 2, 3])
                self.refused(-2, ROW_TOLD, [1, 2, 3, name])
                self.refused(-2, [], [name])

    def test_a_name_told_twice(self):
        self.refused(-2, ROW_TOLD, [1, 2, 2])
        self.refused(-2, ROW_TOLD, [1, 2, 3, 1])
        self.refused(-2, ROW_TOLD, [3, 3, 1, 2])

    def test_both_go_ahead_of_too_few(self):
        self.refused(-2, ROW_TOLD, [4])
        self.refused(-2, ROW_TOLD, [1, 4])
        self.refused(-2, ROW_TOLD, [1, 1])
        self.refused(-2, ROW_TOLD, [FAR, FAR])

    def test_some_of_the_names_alone(self):
        self.refused(-7, ROW_TOLD, [])
        self.refused(-7, ROW_TOLD, [1])
        self.refused(-7, ROW_TOLD, [3, 1])
        self.refused(-7, ROW_TOLD, [1, 2])

    def test_too_few_goes_ahead_of_what_cannot_be(self):
        self.refused(-7, ROW_TOLD, [2, 1])

    def test_twelve_names(self):
        ten = [(name, added(name)) for name in range(10)]
        self.refused(-2, ten, list(range(12)))
        self.refused(-2, ten, list(range(10)) + [0, 1])
        self.refused(-2, ten, list(range(10)) + [0])

    def test_a_name_that_is_gone(self):
        self.assertEqual(last(tree([0]), *adds([(5, added(1))]), tree([0]), order([5])), [-2])


class Behind(unittest.TestCase):
    def test_add_stands_behind_the_row_as_it_is_then(self):
        start, row, names, then = PUT["all of them at once"]
        step = hunk(8, 0, [15], [])
        found = ask(tree(files(start)), *adds(row), order(names), add(50, step), ROW, add(1, added(0)))
        self.assertEqual(found[-3:], [[4], patches(then + [(50, step)]), [-3]])

    def test_needs_are_told_as_they_stand_then(self):
        row = [(7, swap(0, 1, 2)), (2, swap(0, 5, 6)), (5, swap(0, 2, 5))]
        found = ask(tree([1, 0, 0]), *adds(row), needs(5), order([2, 7, 5]), needs(5))
        self.assertEqual(found[-3:], [[2, 7, 2], [1], [2, 2, 7]])
