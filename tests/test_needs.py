import unittest

from tests.lines import FAR, ROW, added, adds, ask, files, hunk, last, moved, needs, neededby, removed, swap, tree

TEXT = [10, 11, 12, 13, 14, 15, 16, 17]
CHAIN = [(30, added(1)), (20, added(0)), (9, hunk(0, 0, [], [5, 6, 7])), (50, swap(1, 1, 2)), (4, hunk(0, 1, [6], []))]


class Needs(unittest.TestCase):
    def both(self, start, row):
        """For each patch of the row, in its order, what it needs and what needs it."""
        calls = [call(name) for name, step in row for call in (needs, neededby)]
        found = ask(tree(files(start)), *adds(row), *calls)[1 + len(row):]
        return {name: (found[2 * k], found[2 * k + 1]) for k, (name, step) in enumerate(row)}

    def test_no_patch_of_this_name(self):
        for name in (5, -1, 100, FAR, -FAR):
            for call in (needs, neededby):
                with self.subTest((name, call)):
                    self.assertEqual(last(tree([0]), call(name)), [-2])
                    self.assertEqual(ask(tree([0]), *adds([(4, added(1))]), call(name), ROW)[2:], [[-2], [1, 4, 2, 1]])

    def test_no_patch_of_this_name_since_it_was_refused_or_is_gone(self):
        self.assertEqual(last(tree([0]), *adds([(5, removed(1))]), needs(5)), [-2])
        self.assertEqual(last(tree([0]), *adds([(5, added(1))]), tree([0]), neededby(5)), [-2])

    def test_none_needed(self):
        self.assertEqual(self.both({}, [(5, added(1))]), {5: ([0], [0])})
        self.assertEqual(self.both({}, [(5, added(1)), (3, added(2))]), {5: ([0], [0]), 3: ([0], [0])})

    def test_others_by_way_of_a_third(self):
        self.assertEqual(self.both({}, CHAIN), {
            30: ([0], [1, 50]),
            20: ([0], [2, 9, 4]),
            9: ([1, 20], [1, 4]),
            50: ([1, 30], [0]),
            4: ([2, 20, 9], [0]),
        })

    def test_needed_by_way_of_a_third_though_they_commute_by_themselves(self):
        row = [(1, swap(0, 10, 11)), (2, swap(0, 11, 12)), (3, swap(0, 12, 13))]
        self.assertEqual(self.both({0: TEXT}, row), {1: ([0], [2, 2, 3]), 2: ([1, 1], [1, 3]), 3: ([2, 1, 2], [0])})
        without = [row[0], row[2]]
        self.assertEqual(self.both({0: TEXT}, without), {1: ([0], [0]), 3: ([0], [0])})

    def test_names_stand_as_in_the_row_and_not_by_size(self):
        row = [(7, swap(0, 1, 2)), (8, swap(0, 3, 4)), (2, swap(0, 5, 6)), (5, swap(0, 2, 5)), (6, swap(0, 1, 7))]
        self.assertEqual(self.both({0: []}, row), {
            7: ([0], [2, 5, 6]), 8: ([0], [0]), 2: ([0], [1, 5]), 5: ([2, 7, 2], [0]), 6: ([1, 7], [0])})

    def test_one_ahead_is_judged_by_the_patch_as_it_is_then(self):
        # Without 2, the place of 3 is right behind what 1 has put there, however far off it is told.
        longer = [(1, hunk(0, 4, [14], [1])), (2, hunk(0, 0, [], [2, 3, 4, 5])), (3, hunk(0, 9, [15], []))]
        self.assertEqual(self.both({0: TEXT}, longer), {1: ([0], [1, 3]), 2: ([0], [0]), 3: ([1, 1], [0])})
        apart = longer[:2] + [(3, hunk(0, 10, [16], []))]
        self.assertEqual(self.both({0: TEXT}, apart), {1: ([0], [0]), 2: ([0], [0]), 3: ([0], [0])})
        # Without 2, the place of 3 is apart from that of 1, though it's told as one ahead of it.
        shorter = [(1, hunk(0, 4, [14], [1])), (2, hunk(0, 0, [10, 11, 12], [])), (3, hunk(0, 3, [16], []))]
        self.assertEqual(self.both({0: TEXT}, shorter), {1: ([0], [0]), 2: ([0], [0]), 3: ([0], [0])})

    def test_a_file_is_followed_through_its_moves(self):
        row = [(1, hunk(0, 0, [], [1])), (2, moved(0, 5)), (3, hunk(5, 0, [1], [2])), (4, moved(5, 0)), (5, swap(0, 1, 2))]
        self.assertEqual(self.both({0: []}, row), {
            1: ([0], [1, 3]), 2: ([0], [1, 4]), 3: ([1, 1], [0]), 4: ([1, 2], [0]), 5: ([0], [0])})

    def test_those_that_are_not_needed_leave_the_needed_ones_as_they_are_then(self):
        row = [(1, hunk(0, 2, [12], [1])), (2, swap(0, 1, 60)), (3, hunk(0, 2, [60], [61])), (4, moved(0, 4)),
               (5, hunk(4, 2, [61], []))]
        self.assertEqual(self.both({0: TEXT}, row), {
            1: ([0], [2, 3, 5]), 2: ([0], [0]), 3: ([1, 1], [1, 5]), 4: ([0], [0]), 5: ([2, 1, 3], [0])})
