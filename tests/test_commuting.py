import unittest

from tests.lines import (FORM, FRONTS, OUTCOME, ROW, add, added, adds, ask, files, hunk, last, moved, needs, neededby,
                         patches, removed, swap, tree)

FIRST = 9
SECOND = 1
TEXT = [10, 11, 12, 13, 14, 15, 16, 17]

# Each: the files, the step p, the step q behind it, what q and p become.
COMMUTING = {
    "hunk behind a longer one": (
        {0: TEXT}, hunk(0, 1, [11], [1, 2, 3]), hunk(0, 5, [13], [4]), hunk(0, 3, [13], [4]), None),
    "hunk behind a shorter one": (
        {0: TEXT}, hunk(0, 1, [11, 12, 13], [1]), hunk(0, 3, [15], []), hunk(0, 5, [15], []), None),
    "hunk behind one as long": (
        {0: TEXT}, hunk(0, 1, [11], [1]), hunk(0, 3, [13], [4]), None, None),
    "hunk behind new tokens, one untouched": (
        {0: TEXT}, hunk(0, 2, [], [1, 2]), hunk(0, 5, [], [3]), hunk(0, 3, [], [3]), None),
    "hunk behind no new tokens, one untouched": (
        {0: TEXT}, hunk(0, 2, [12, 13], []), hunk(0, 3, [15], []), hunk(0, 5, [15], []), None),
    "hunk at the end, one untouched": (
        {0: [10, 11]}, hunk(0, 0, [10], []), hunk(0, 1, [], [5]), hunk(0, 2, [], [5]), None),
    "hunk ahead with more new tokens": (
        {0: TEXT}, hunk(0, 4, [14], [1]), hunk(0, 1, [11], [2, 3]), None, hunk(0, 5, [14], [1])),
    "hunk ahead with fewer new tokens": (
        {0: TEXT}, hunk(0, 4, [14], []), hunk(0, 0, [10, 11, 12], [2]), None, hunk(0, 2, [14], [])),
    "hunk ahead with no old tokens, one untouched": (
        {0: TEXT}, hunk(0, 3, [13], [1]), hunk(0, 2, [], [8, 9]), None, hunk(0, 5, [13], [1])),
    "hunk ahead with old tokens, one untouched": (
        {0: TEXT}, hunk(0, 4, [], [1]), hunk(0, 1, [11, 12], []), None, hunk(0, 2, [], [1])),
    "hunk and swap": (
        {0: TEXT}, hunk(0, 1, [11], [12, 5]), swap(0, 11, 12), None, hunk(0, 1, [12], [11, 5])),
    "hunk and swap of other tokens": (
        {0: TEXT}, hunk(0, 1, [11], [12]), swap(0, 10, 50), None, None),
    "hunk and swap of one of its new tokens": (
        {0: TEXT}, hunk(0, 1, [11], [50, 51]), swap(0, 51, 52), None, hunk(0, 1, [11], [50, 52])),
    "swap and hunk": (
        {0: TEXT}, swap(0, 11, 12), hunk(0, 1, [12], [11, 5]), hunk(0, 1, [11], [12, 5]), None),
    "swap and hunk of other tokens": (
        {0: TEXT}, swap(0, 11, 50), hunk(0, 3, [13], [6]), None, None),
    "two swaps with no token in common": (
        {0: TEXT}, swap(0, 10, 11), swap(0, 12, 13), None, None),
    "hunk and its file moved": (
        {0: TEXT}, hunk(0, 1, [11], [5]), moved(0, 3), None, hunk(3, 1, [11], [5])),
    "swap and its file moved": (
        {0: TEXT}, swap(0, 11, 12), moved(0, 3), None, swap(3, 11, 12)),
    "move and a hunk inside": (
        {3: TEXT}, moved(3, 0), hunk(0, 1, [11], [5]), hunk(3, 1, [11], [5]), None),
    "move and a swap inside": (
        {3: TEXT}, moved(3, 0), swap(0, 11, 12), swap(3, 11, 12), None),
}

NOT_COMMUTING = {
    "hunk right behind new tokens": ({0: TEXT}, hunk(0, 2, [], [1, 2]), hunk(0, 4, [], [3])),
    "hunk right behind no new tokens": ({0: TEXT}, hunk(0, 2, [12, 13], []), hunk(0, 2, [14], [])),
    "hunk at the end, none untouched": ({0: [10]}, hunk(0, 0, [10], [5]), hunk(0, 1, [], [6])),
    "hunk right ahead with no old tokens": ({0: TEXT}, hunk(0, 2, [12], [1]), hunk(0, 2, [], [8, 9])),
    "hunk right ahead with old tokens": ({0: TEXT}, hunk(0, 3, [], [1]), hunk(0, 1, [11, 12], [])),
    "hunk within new tokens": ({0: TEXT}, hunk(0, 2, [], [1, 2, 3]), hunk(0, 3, [2], [])),
    "hunk around new tokens": ({0: TEXT}, hunk(0, 2, [], [1]), hunk(0, 1, [11, 1, 12], [])),
    "hunk turned round": ({0: TEXT}, hunk(0, 2, [12], [1]), hunk(0, 2, [1], [12])),
    "two swaps with the first tokens alike": ({0: TEXT}, swap(0, 10, 11), swap(0, 10, 13)),
    "two swaps with the second tokens alike": ({0: TEXT}, swap(0, 10, 11), swap(0, 13, 11)),
    "two swaps with the first like the second": ({0: TEXT}, swap(0, 10, 11), swap(0, 12, 10)),
    "two swaps with the second like the first": ({0: TEXT}, swap(0, 10, 11), swap(0, 11, 12)),
    "a swap twice": ({0: TEXT}, swap(0, 10, 11), swap(0, 10, 11)),
    "a swap twice, turned": ({0: TEXT}, swap(0, 10, 11), swap(0, 11, 10)),
    "hunk and its file removed": ({0: [10]}, hunk(0, 0, [10], []), removed(0)),
    "swap and its file removed": ({0: []}, swap(0, 10, 11), removed(0)),
    "added and a hunk inside": ({}, added(0), hunk(0, 0, [], [5])),
    "added and a swap inside": ({}, added(0), swap(0, 5, 6)),
    "added and removed": ({}, added(0), removed(0)),
    "added and moved": ({}, added(0), moved(0, 3)),
    "removed and added": ({0: []}, removed(0), added(0)),
    "removed and another moved there": ({0: [], 3: TEXT}, removed(0), moved(3, 0)),
    "moved and the old name added": ({0: TEXT}, moved(0, 3), added(0)),
    "moved and removed": ({0: []}, moved(0, 3), removed(3)),
    "moved and moved on": ({0: TEXT}, moved(0, 3), moved(3, 4)),
    "moved and moved back": ({0: TEXT}, moved(0, 3), moved(3, 0)),
    "moved and another moved to the old name": ({0: TEXT, 4: []}, moved(0, 3), moved(4, 0)),
}

# A step of each kind, on files of its own: p's on 0 to 2, q's on 5 to 7.
APART = {0: TEXT, 1: [], 5: TEXT, 6: []}
STEPS_OF_P = [hunk(0, 1, [11], [10, 5]), swap(0, 10, 11), added(2), removed(1), moved(0, 2)]
STEPS_OF_Q = [hunk(5, 1, [11], [10, 5]), swap(5, 10, 11), added(7), removed(6), moved(5, 7)]


class Pairs(unittest.TestCase):
    def asked(self, start, row):
        calls = [tree(files(start)), *adds(row), needs(SECOND), neededby(FIRST), FRONTS, FORM, ROW]
        return ask(*calls)[3:]

    def commute(self, start, p, q, q_then, p_then):
        row = [(FIRST, p), (SECOND, q)]
        form = [(SECOND, q_then), (FIRST, p_then)]
        self.assertEqual(self.asked(start, row), [[0], [0], [2, SECOND, FIRST], patches(form), patches(row)])
        outcomes = [last(tree(files(start)), *adds(told), OUTCOME) for told in (row, form)]
        self.assertEqual(outcomes[0], outcomes[1])

    def do_not_commute(self, start, p, q):
        row = [(FIRST, p), (SECOND, q)]
        found = self.asked(start, row)
        self.assertEqual(found, [[1, FIRST], [1, SECOND], [1, FIRST], patches(row), patches(row)])

    def test_each_way_to_commute(self):
        for told, (start, p, q, q_then, p_then) in COMMUTING.items():
            with self.subTest(told):
                self.commute(start, p, q, q_then or q, p_then or p)

    def test_and_back(self):
        for told, (start, p, q, q_then, p_then) in COMMUTING.items():
            with self.subTest(told):
                self.commute(start, q_then or q, p_then or p, p, q)

    def test_each_case_that_does_not(self):
        for told, (start, p, q) in NOT_COMMUTING.items():
            with self.subTest(told):
                self.do_not_commute(start, p, q)

    def test_each_kind_with_each_other_kind_with_no_name_in_common(self):
        for p in STEPS_OF_P:
            for q in STEPS_OF_Q:
                with self.subTest((p, q)):
                    self.commute(APART, p, q, q, p)
                    self.commute(APART, q, p, p, q)


class SeveralPatches(unittest.TestCase):
    def form(self, start, row):
        return last(tree(files(start)), *adds(row), FORM)

    def fronts(self, start, row):
        return last(tree(files(start)), *adds(row), FRONTS)

    def test_no_patch(self):
        self.assertEqual(ask(tree([0]), FRONTS, FORM, ROW), [[0], [0], [0], [0]])

    def test_one_patch(self):
        self.assertEqual(ask(tree([0]), add(50, added(3)), FRONTS, FORM)[2:], [[1, 50], [1, 50, 2, 3]])

    def test_a_patch_is_commuted_with_each_one_as_it_is_then(self):
        start = {0: TEXT}
        row = [(5, hunk(0, 0, [10], [1, 2])), (6, hunk(0, 3, [], [3, 4])), (4, moved(0, 8)), (1, hunk(8, 8, [15], []))]
        self.assertEqual(self.fronts(start, row), [4, 1, 4, 5, 6])
        self.assertEqual(self.form(start, row), patches([
            (1, hunk(0, 5, [15], [])), (4, moved(0, 8)), (5, hunk(8, 0, [10], [1, 2])), (6, hunk(8, 3, [], [3, 4]))]))

    def test_the_others_are_as_they_are_when_one_was_brought_past_them(self):
        start = {0: TEXT}
        row = [(5, hunk(0, 6, [16], [1])), (4, hunk(0, 4, [], [2])), (3, hunk(0, 0, [10, 11], []))]
        self.assertEqual(self.form(start, row), patches([
            (3, hunk(0, 0, [10, 11], [])), (4, hunk(0, 2, [], [2])), (5, hunk(0, 5, [16], [1]))]))

    def test_the_least_name_at_the_front_and_not_the_least_of_all(self):
        row = [(8, added(0)), (1, hunk(0, 0, [], [5])), (3, added(1)), (2, removed(1))]
        self.assertEqual(self.fronts({}, row), [2, 3, 8])
        self.assertEqual(self.form({}, row), patches([
            (3, added(1)), (2, removed(1)), (8, added(0)), (1, hunk(0, 0, [], [5]))]))

    def test_a_patch_that_is_free_only_behind_another_one(self):
        row = [(5, added(0)), (1, hunk(0, 0, [], [5])), (6, added(1))]
        self.assertEqual(self.fronts({}, row), [2, 5, 6])
        self.assertEqual(self.form({}, row), patches(row))

    def test_one_that_is_stopped_half_way_is_not_at_the_front(self):
        row = [(5, added(0)), (6, added(1)), (7, added(2)), (1, swap(0, 1, 2))]
        self.assertEqual(self.fronts({}, row), [3, 5, 6, 7])
        self.assertEqual(self.form({}, row), patches([row[0], row[3], row[1], row[2]]))

    def test_names_told_are_rising(self):
        row = [(40, added(0)), (7, added(1)), (99, added(2)), (0, added(3))]
        self.assertEqual(self.fronts({}, row), [4, 0, 7, 40, 99])
        self.assertEqual(self.form({}, row), patches([row[3], row[1], row[0], row[2]]))

    def test_ten_patches_put_round(self):
        row = [(9 - file, added(file)) for file in range(10)]
        self.assertEqual(self.fronts({}, row), [10, 0, 1, 2, 3, 4, 5, 6, 7, 8, 9])
        self.assertEqual(self.form({}, row), patches(row[::-1]))

    def test_a_place_beyond_what_a_tree_may_tell(self):
        start = {0: TEXT}
        row = [(1, hunk(0, 8, [], [9] * 8)), (2, hunk(0, 16, [], [8] * 8)), (3, hunk(0, 24, [], [7])),
               (0, hunk(0, 0, [], [6] * 8))]
        self.assertEqual(self.form(start, row), patches([
            row[3], (1, hunk(0, 16, [], [9] * 8)), (2, hunk(0, 24, [], [8] * 8)), (3, hunk(0, 32, [], [7]))]))

    def test_the_row_itself_stays(self):
        row = [(2, added(0)), (1, added(1))]
        found = ask(tree([0]), *adds(row), FORM, FRONTS, needs(1), neededby(2), ROW)
        self.assertEqual(found[-1], patches(row))
