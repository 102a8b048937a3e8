import unittest

from tests.lines import (COUNT, FAR, FORM, FRONTS, OUTCOME, RANK, ROW, add, added, adds, ask, drop, equal, files, hunk,
                         kth, last, moved, needs, neededby, order, pick, removed, swap, tree)

TOKENS = [1, 2, 3, 4, 5, 6, 7, 8, 9, 10, 11, 12]
START = {0: TOKENS, 1: [], 2: [20, 21, 20]}

FITTING = {
    "old tokens at the beginning": (hunk(2, 0, [20], [5]), {2: [5, 21, 20]}),
    "old tokens in the middle": (hunk(2, 1, [21], [5, 6]), {2: [20, 5, 6, 20]}),
    "old tokens up to the end": (hunk(2, 1, [21, 20], [7]), {2: [20, 7]}),
    "no old tokens, at the beginning": (hunk(2, 0, [], [7]), {2: [7, 20, 21, 20]}),
    "no old tokens, at the end": (hunk(2, 3, [], [7, 8]), {2: [20, 21, 20, 7, 8]}),
    "no old tokens, in an empty file": (hunk(1, 0, [], [0, 99]), {1: [0, 99]}),
    "no new tokens": (hunk(2, 0, [20, 21], []), {2: [20]}),
    "all tokens gone": (hunk(2, 0, [20, 21, 20], []), {2: []}),
    "new tokens like the old ones": (hunk(2, 1, [21], [21]), {}),
    "eight old tokens": (hunk(0, 2, TOKENS[2:10], []), {0: [1, 2, 11, 12]}),
    "eight new tokens": (hunk(1, 0, [], [9] * 8), {1: [9] * 8}),
    "eight of both": (hunk(0, 0, TOKENS[:8], [0] * 8), {0: [0] * 8 + TOKENS[8:]}),
    "a swap of both tokens": (swap(2, 20, 21), {2: [21, 20, 21]}),
    "a swap the other way round": (swap(2, 21, 20), {2: [21, 20, 21]}),
    "a swap of one token that stands": (swap(2, 0, 20), {2: [0, 21, 0]}),
    "a swap of tokens that don't stand": (swap(2, 98, 99), {}),
    "a swap in an empty file": (swap(1, 4, 5), {}),
    "added": (added(9), {9: []}),
    "removed": (removed(1), {1: None}),
    "moved": (moved(2, 7), {2: None, 7: [20, 21, 20]}),
    "an empty file moved": (moved(1, 9), {1: None, 9: []}),
}

NOT_FITTING = {
    "a hunk in no file": hunk(3, 0, [], [1]),
    "a hunk beyond the end": hunk(2, 4, [], [1]),
    "a hunk beyond an empty file's end": hunk(1, 1, [], [1]),
    "a hunk at the last place that can be told": hunk(2, 1000, [], [1]),
    "other old tokens": hunk(2, 0, [21], [1]),
    "old tokens that are so at another place": hunk(2, 0, [21, 20], [1]),
    "only the first old token": hunk(2, 0, [20, 20], []),
    "old tokens over the end": hunk(2, 2, [20, 21], []),
    "old tokens at the end": hunk(2, 3, [20], []),
    "old tokens in an empty file": hunk(1, 0, [1], []),
    "a swap in no file": swap(3, 1, 2),
    "added, but it's there": added(2),
    "added, but it's there and empty": added(1),
    "removed, but there's none": removed(3),
    "removed, but not empty": removed(2),
    "no file moved": moved(3, 4),
    "moved to a name that's there": moved(2, 0),
    "moved to an empty file's name": moved(2, 1),
}

NO_STEP = {
    "no number": [],
    "kind below 0": [-1, 0],
    "kind above 4": [5, 0, 1],
    "kind far out": [FAR],
    "kind far below": [-FAR],
    "hunk alone": [0],
    "hunk without a place": [0, 0],
    "hunk without old ones": [0, 0, 0],
    "hunk without new ones": [0, 0, 0, 1, 1],
    "hunk with an old one missing": [0, 0, 0, 2, 1],
    "hunk with a new one missing": [0, 0, 0, 0, 2, 5],
    "hunk of both none": hunk(0, 0, [], []),
    "hunk with something left over": hunk(0, 0, [], [5]) + [5],
    "hunk with nine old ones": hunk(0, 0, TOKENS[:9], []),
    "hunk with nine new ones": hunk(0, 0, [], [5] * 9),
    "hunk at a place of 1001": hunk(0, 1001, [], [5]),
    "hunk at a place below 0": hunk(0, -1, [], [5]),
    "hunk at a place far out": hunk(0, FAR, [], [5]),
    "hunk with old ones below 0": [0, 0, 0, -1, 1, 5],
    "hunk with new ones below 0": [0, 0, 0, 1, 1, -1],
    "hunk with old ones far out": [0, 0, 0, FAR, 1],
    "hunk with new ones far out": [0, 0, 0, 0, FAR, 1],
    "hunk with a file above 9": hunk(10, 0, [], [5]),
    "hunk with a file below 0": hunk(-1, 0, [], [5]),
    "hunk with an old token above 99": hunk(0, 0, [100], []),
    "hunk with an old token below 0": hunk(0, 0, [-1], []),
    "hunk with a new token above 99": hunk(0, 0, [], [100]),
    "hunk with a new token below 0": hunk(0, 0, [], [-1]),
    "thirty numbers": [0] * 30,
    "swap alone": [1],
    "swap without tokens": [1, 0],
    "swap without its second token": [1, 0, 1],
    "swap of alike tokens": swap(0, 3, 3),
    "swap with something left over": swap(0, 3, 4) + [0],
    "swap with a file above 9": swap(10, 3, 4),
    "swap with a first token above 99": swap(0, 100, 4),
    "swap with a second token above 99": swap(0, 4, 100),
    "swap with a first token below 0": swap(0, -1, 4),
    "swap with a second token below 0": swap(0, 4, -1),
    "added alone": [2],
    "added above 9": added(10),
    "added below 0": added(-1),
    "added with something left over": added(5) + [5],
    "removed alone": [3],
    "removed above 9": removed(10),
    "removed below 0": removed(-1),
    "removed with something left over": removed(1) + [1],
    "moved alone": [4],
    "moved without a new name": [4, 2],
    "moved to its own name": moved(2, 2),
    "moved from above 9": moved(10, 2),
    "moved to above 9": moved(2, 10),
    "moved from below 0": moved(-1, 2),
    "moved to below 0": moved(2, -1),
    "moved with something left over": moved(2, 5) + [5],
}

GOOD_STEP = added(9)
TEN = [(name, hunk(1, 0, [], [name])) for name in range(10)]


def changed(start, by):
    outcome = dict(start)
    outcome.update(by)
    return {name: tokens for name, tokens in outcome.items() if tokens is not None}


class WithoutATree(unittest.TestCase):
    def test_every_other_call_is_refused(self):
        calls = [add(1, GOOD_STEP), ROW, OUTCOME, needs(1), neededby(1), FRONTS, FORM]
        self.assertEqual(ask(*calls), [[-8]] * 7)

    def test_the_calls_of_order_and_equality_are_refused(self):
        for call in (equal([0]), COUNT, kth(0), RANK, order([]), pick([]), drop(1)):
            with self.subTest(call):
                self.assertEqual(ask(call), [[-8]])
                self.assertEqual(ask(call, ROW, call), [[-8]] * 3)

    def test_it_goes_ahead_of_every_other_refusal(self):
        calls = [add(100, GOOD_STEP), add(-1, []), add(1, []), add(1, removed(0)), needs(FAR), neededby(-FAR),
                 equal([]), equal([11]), equal([1, 5] + added(3)), kth(-1), kth(FAR), order([1, 1]), order([-FAR]),
                 pick([1, 1]), pick([FAR]), drop(-1)]
        self.assertEqual(ask(*calls), [[-8]] * len(calls))

    def test_also_behind_a_refused_tree(self):
        calls = [equal([0]), COUNT, kth(0), RANK, order([]), pick([]), drop(1)]
        self.assertEqual(ask(tree([7]), *calls), [[-1]] + [[-8]] * 7)

    def test_nothing_is_kept_of_what_was_refused(self):
        self.assertEqual(ask(add(1, GOOD_STEP), tree([0]), ROW, OUTCOME), [[-8], [0], [0], [0]])


class Fitting(unittest.TestCase):
    def test_steps_that_fit(self):
        for told, (step, by) in FITTING.items():
            with self.subTest(told):
                found = ask(tree(files(START)), add(0, step), ROW, OUTCOME)
                self.assertEqual(found, [[3], [0], [1, 0] + step, files(changed(START, by))])

    def test_steps_that_do_not(self):
        for told, step in NOT_FITTING.items():
            with self.subTest(told):
                found = ask(tree(files(START)), add(0, step), ROW, OUTCOME)
                self.assertEqual(found, [[3], [-4], [0], files(START)])

    def test_a_step_fits_the_tree_that_comes_of_the_row(self):
        row = [(1, added(5)), (2, hunk(5, 0, [], [7, 8])), (3, swap(5, 7, 9)), (4, hunk(5, 0, [9, 8], [])), (5, removed(5))]
        self.assertEqual(ask(tree([0]), *adds(row), OUTCOME), [[0], [0], [1], [2], [3], [4], [0]])

    def test_a_step_that_fits_the_first_tree_alone_is_refused(self):
        first = tree([1, 0, 1, 5])
        self.assertEqual(ask(first, add(1, hunk(0, 0, [5], [6])), add(2, hunk(0, 0, [5], [])))[1:], [[0], [-4]])
        self.assertEqual(ask(first, add(1, moved(0, 1)), add(2, swap(0, 1, 2)))[1:], [[0], [-4]])

    def test_files_and_tokens_may_get_more_than_a_tree_may_tell(self):
        row = [(name, added(name)) for name in range(6, 10)]
        start = {name: [name] * 12 for name in range(6)}
        full = row + [(20, hunk(0, 12, [], [50] * 8)), (21, hunk(0, 20, [], [51] * 8))]
        outcome = changed(start, {0: [0] * 12 + [50] * 8 + [51] * 8, 6: [], 7: [], 8: [], 9: []})
        self.assertEqual(last(tree(files(start)), *adds(full), OUTCOME), files(outcome))


class Refused(unittest.TestCase):
    def refused(self, number, name, step, row=()):
        """It's refused with this number, and all is as it was."""
        state = [ROW, OUTCOME, FRONTS, FORM]
        found = ask(tree(files(START)), *adds(row), *state, add(name, step), *state)
        self.assertEqual(found[-5], [number])
        self.assertEqual(found[-4:], found[-9:-5])

    def test_a_name_out_of_its_range(self):
        for name in (-1, 100, FAR, -FAR):
            self.refused(-3, name, GOOD_STEP)

    def test_the_least_and_the_most_name_are_taken(self):
        self.assertEqual(ask(tree([0]), add(0, added(0)), add(99, added(1))), [[0], [0], [1]])

    def test_no_step(self):
        for told, step in NO_STEP.items():
            with self.subTest(told):
                self.refused(-1, 0, step)

    def test_a_name_that_the_row_has(self):
        self.refused(-3, 5, GOOD_STEP, [(5, removed(1))])
        self.refused(-3, 5, removed(1), [(5, added(8)), (6, added(9))])

    def test_ten_patches_and_the_eleventh(self):
        places = ask(tree(files(START)), *adds(TEN))[1:]
        self.assertEqual(places, [[place] for place in range(10)])
        self.refused(-6, 10, GOOD_STEP, TEN)
        self.refused(-6, 99, GOOD_STEP, TEN)

    def test_a_step_that_does_not_fit(self):
        self.refused(-4, 5, removed(2))

    def test_a_bad_name_goes_ahead_of_all(self):
        self.refused(-3, 100, [])
        self.refused(-3, -1, swap(0, 3, 3))
        self.refused(-3, 100, removed(2))
        self.refused(-3, 100, GOOD_STEP, TEN)

    def test_no_step_goes_ahead_of_a_name_that_the_row_has(self):
        self.refused(-1, 5, [], [(5, removed(1))])
        self.refused(-1, 5, hunk(0, 0, [], []), [(5, removed(1))])

    def test_no_step_goes_ahead_of_the_eleventh(self):
        self.refused(-1, 10, moved(2, 2), TEN)

    def test_a_name_that_the_row_has_goes_ahead_of_the_eleventh(self):
        self.refused(-3, 9, GOOD_STEP, TEN)

    def test_a_name_that_the_row_has_goes_ahead_of_not_fitting(self):
        self.refused(-3, 5, removed(2), [(5, removed(1))])

    def test_the_eleventh_goes_ahead_of_not_fitting(self):
        self.refused(-6, 10, removed(2), TEN)

    def test_a_refused_patch_may_be_added_otherwise(self):
        found = ask(tree([0]), add(4, removed(1)), add(4, added(1)), add(4, added(2)), add(5, added(2)), ROW)
        self.assertEqual(found[1:], [[-4], [0], [-3], [1], [2, 4, 2, 1, 5, 2, 2]])
