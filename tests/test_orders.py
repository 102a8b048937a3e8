import itertools
import math
import unittest

from tests.lines import (COUNT, FAR, FORM, FRONTS, OUTCOME, RANK, ROW, added, adds, ask, drop, files, hunk, kth, last,
                         moved, order, patches, removed, swap, tree)
from tests.test_against_search import equal_rows

TEXT = [10, 11, 12, 13, 14, 15, 16, 17]
TEN = [(9 * (9 - file), added(file)) for file in range(10)]
TEN_NAMES = [0, 9, 18, 27, 36, 45, 54, 63, 72, 81]

# Each: the files, the row, the orders of the rows equal to it as they are numbered.
ORDERS = {
    "no patch": ({0: [1]}, [], [[]]),
    "one patch": ({}, [(50, added(0))], [[50]]),
    "two that commute": ({}, [(7, added(0)), (4, added(1))], [[4, 7], [7, 4]]),
    "two that don't": ({}, [(7, added(0)), (4, removed(0))], [[7, 4]]),
    "no two of them commute": (
        {0: TEXT}, [(5, swap(0, 1, 2)), (9, swap(0, 2, 1)), (2, swap(0, 1, 3)), (4, swap(0, 3, 1))], [[5, 9, 2, 4]]),
    "the first and the third commute by themselves alone": (
        {0: TEXT}, [(3, swap(0, 1, 2)), (2, swap(0, 2, 3)), (1, swap(0, 3, 4))], [[3, 2, 1]]),
    "a third that is free": (
        {0: TEXT}, [(3, swap(0, 1, 2)), (1, swap(0, 2, 3)), (2, swap(0, 8, 9))], [[2, 3, 1], [3, 1, 2], [3, 2, 1]]),
    "one that needs another by way of a third, and a free one": (
        {}, [(30, added(0)), (20, moved(0, 1)), (10, removed(1)), (15, added(5))],
        [[15, 30, 20, 10], [30, 15, 20, 10], [30, 20, 10, 15], [30, 20, 15, 10]]),
    "two chains": (
        {}, [(4, added(0)), (1, removed(0)), (3, added(1)), (2, removed(1))],
        [[3, 2, 4, 1], [3, 4, 1, 2], [3, 4, 2, 1], [4, 1, 3, 2], [4, 3, 1, 2], [4, 3, 2, 1]]),
    "two that one needs": (
        {0: []}, [(8, swap(0, 1, 2)), (9, swap(0, 3, 4)), (1, swap(0, 2, 3))], [[8, 9, 1], [9, 8, 1]]),
    "names that would stand otherwise as texts": (
        {}, [(10, added(0)), (9, added(1))], [[9, 10], [10, 9]]),
    "hunks that are apart by way of others": (
        {0: TEXT}, [(1, hunk(0, 4, [14], [1])), (2, hunk(0, 0, [10, 11, 12], [])), (3, hunk(0, 3, [16], []))],
        [[1, 2, 3], [1, 3, 2], [2, 1, 3], [2, 3, 1], [3, 1, 2], [3, 2, 1]]),
}


class Numbered(unittest.TestCase):
    def test_count(self):
        for told, (start, row, orders) in ORDERS.items():
            with self.subTest(told):
                self.assertEqual(last(tree(files(start)), *adds(row), COUNT), [len(orders)])

    def test_kth_from_0_on_until_there_is_none(self):
        for told, (start, row, orders) in ORDERS.items():
            with self.subTest(told):
                calls = [kth(number) for number in range(len(orders) + 3)]
                found = ask(tree(files(start)), *adds(row), *calls)[1 + len(row):]
                self.assertEqual(found, [[1, len(row)] + each for each in orders] + [[0]] * 3)

    def test_rank_of_the_row_as_it_was_added(self):
        for told, (start, row, orders) in ORDERS.items():
            with self.subTest(told):
                number = orders.index([name for name, step in row])
                self.assertEqual(last(tree(files(start)), *adds(row), RANK), [number])

    def test_rank_of_a_row_that_is_put_into_the_order_that_kth_tells(self):
        for told, (start, row, orders) in ORDERS.items():
            for number, names in enumerate(orders):
                with self.subTest((told, number)):
                    found = ask(tree(files(start)), *adds(row), kth(number), order(names), RANK, COUNT, kth(number))
                    kth_told = [1, len(row)] + names
                    self.assertEqual(found[1 + len(row):], [kth_told, [1], [number], [len(orders)], kth_told])

    def test_the_first_one_is_the_one_form(self):
        for told, (start, row, orders) in ORDERS.items():
            with self.subTest(told):
                form = last(tree(files(start)), *adds(row), FORM)
                self.assertEqual(form, patches(equal_rows(row)[tuple(orders[0])]))

    def test_a_number_that_no_row_has(self):
        for told, (start, row, orders) in ORDERS.items():
            for number in (len(orders), 1024, 3628801, 2 ** 32, FAR - 1, FAR):
                with self.subTest((told, number)):
                    self.assertEqual(last(tree(files(start)), *adds(row), kth(number)), [0])

    def test_a_number_below_0(self):
        for told, (start, row, orders) in ORDERS.items():
            for number in (-1, -2, -len(orders), -FAR):
                with self.subTest((told, number)):
                    self.assertEqual(last(tree(files(start)), *adds(row), kth(number)), [-4])

    def test_they_change_nothing(self):
        state = [ROW, OUTCOME, FRONTS, FORM]
        for told, (start, row, orders) in ORDERS.items():
            for call in (COUNT, RANK, kth(0), kth(len(orders) - 1), kth(FAR), kth(-1)):
                with self.subTest((told, call)):
                    found = ask(tree(files(start)), *adds(row), *state, call, *state)
                    self.assertEqual(found[-4:], found[-9:-5])

    def test_the_row_as_it_is_then(self):
        start, row, orders = ORDERS["two chains"]
        found = ask(tree(files(start)), *adds(row), drop(1), COUNT, RANK, kth(0), kth(2), kth(3))
        self.assertEqual(found[5:], [[1, 3], [3], [2], [1, 3, 3, 2, 4], [1, 3, 4, 3, 2], [0]])


class TenPatches(unittest.TestCase):
    def test_all_commute(self):
        self.assertEqual(last(tree([0]), *adds(TEN), COUNT), [math.factorial(10)])

    def test_the_first_and_the_last_number(self):
        found = ask(tree([0]), *adds(TEN), RANK, kth(0), kth(3628799), kth(3628800), kth(FAR))[11:]
        rising = [1, 10] + TEN_NAMES
        falling = [1, 10] + TEN_NAMES[::-1]
        self.assertEqual(found, [[3628799], rising, falling, [0], [0]])

    def test_the_first_numbers(self):
        calls = [kth(number) for number in range(40)]
        found = ask(tree([0]), *adds(TEN), *calls)[11:]
        names = itertools.islice(itertools.permutations(TEN_NAMES), 40)
        self.assertEqual(found, [[1, 10] + list(each) for each in names])

    def test_numbers_all_over(self):
        for number in range(0, 3628800, 181439):
            with self.subTest(number):
                names = self.numbered(number)
                found = ask(tree([0]), *adds(TEN), kth(number), order(names), RANK)
                self.assertEqual(found[11:], [[1, 10] + names, [1], [number]])

    def numbered(self, number):
        names = list(TEN_NAMES)
        found = []
        while names:
            which, number = divmod(number, math.factorial(len(names) - 1))
            found.append(names.pop(which))
        return found

    def test_none_commute(self):
        row = [(90 - 7 * k, hunk(0, 0, [], [k])) for k in range(10)]
        names = [name for name, step in row]
        found = ask(tree([1, 0, 0]), *adds(row), COUNT, RANK, kth(0), kth(1))
        self.assertEqual(found[11:], [[1], [0], [1, 10] + names, [0]])

    def test_five_chains_of_two(self):
        row = [(10 * file, added(file)) for file in range(5)] + [(10 * file + 1, swap(file, 1, 2)) for file in range(5)]
        rising = [0, 1, 10, 11, 20, 21, 30, 31, 40, 41]
        falling = [40, 41, 30, 31, 20, 21, 10, 11, 0, 1]
        found = ask(tree([0]), *adds(row), COUNT, kth(0), kth(113399), kth(113400), order(falling), RANK)[11:]
        self.assertEqual(found, [[113400], [1, 10] + rising, [1, 10] + falling, [0], [1], [113399]])

    def test_three_chains_of_two_one_by_one(self):
        row = [(10 * file, added(file)) for file in range(3)] + [(10 * file + 1, swap(file, 1, 2)) for file in range(3)]
        orders = [names for names in itertools.permutations([0, 1, 10, 11, 20, 21])
                  if all(names.index(k) < names.index(k + 1) for k in (0, 10, 20))]
        self.assertEqual(len(orders), 90)
        for begin in range(0, 91, 40):
            numbers = range(begin, min(begin + 40, 92))
            found = ask(tree([0]), *adds(row), *[kth(number) for number in numbers])[7:]
            expected = [[1, 6] + list(orders[number]) if number < 90 else [0] for number in numbers]
            self.assertEqual(found, expected)
