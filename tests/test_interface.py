import unittest

import patchrows.history
from patchrows.history import answers
from tests.lines import (COUNT, FORM, FRONTS, OUTCOME, RANK, ROW, add, added, ask, drop, equal, kth, needs, neededby,
                         order, pick, tree)

LINE = (tree([1, 0, 2, 5, 6]) + add(3, [0, 0, 0, 1, 5, 0]) + add(2, added(4)) + add(3, added(5)) + needs(3)
        + neededby(8) + FRONTS + FORM + ROW + OUTCOME + COUNT + kth(1) + kth(2) + kth(-1) + RANK + order([2, 3])
        + order([]) + pick([3]) + pick([4]) + equal([1, 2, 2, 4]) + equal([]) + drop(3) + equal([1, 2, 2, 4]) + ROW)
ANSWERED = ([1, 1] + [1, 0] + [1, 1] + [1, -3] + [1, 0] + [1, -2] + [3, 2, 2, 3]
            + [11, 2, 2, 2, 4, 3, 0, 0, 0, 1, 5, 0] + [11, 2, 3, 0, 0, 0, 1, 5, 0, 2, 2, 4] + [6, 2, 0, 1, 6, 4, 0]
            + [1, 2] + [4, 1, 2, 3, 2] + [1, 0] + [1, -4] + [1, 1] + [1, 1]
            + [1, -7] + [3, 1, 1, 3] + [1, -2] + [1, 0] + [1, -5] + [2, 1, 1] + [1, 1] + [4, 1, 2, 2, 4])


class Interface(unittest.TestCase):
    def test_several_calls_in_one_list(self):
        self.assertEqual(answers(LINE), ANSWERED)

    def test_by_the_modules_name(self):
        self.assertEqual(patchrows.history.answers([2]), [1, -8])

    def test_one_call(self):
        self.assertEqual(answers([0, 1, 0]), [1, 0])
        self.assertEqual(answers([0, 0]), [1, -1])

    def test_an_empty_list_within_a_call_is_followed_by_the_next_call(self):
        self.assertEqual(ask(tree([]), tree([0]), add(1, []), ROW), [[-1], [0], [-1], [0]])

    def test_what_is_in_a_calls_list_is_not_taken_for_a_call(self):
        self.assertEqual(ask(tree([2, 3, 6, 7]), tree([1, 2, 3, 4, 5, 6]), add(2, [2, 3, 6]), ROW),
                         [[-1], [1], [-1], [0]])

    def test_what_is_handed_in_stays(self):
        line = list(LINE)
        answers(line)
        self.assertEqual(line, LINE)

    def test_what_is_given_back_is_new(self):
        first = answers(LINE)
        first.clear()
        self.assertEqual(answers(LINE), ANSWERED)

    def test_nothing_is_kept_from_one_time_to_the_next(self):
        self.assertEqual(answers(LINE), answers(LINE))
        self.assertEqual(answers(ROW), [1, -8])

    def test_it_gives_back_a_list_of_whole_numbers(self):
        found = answers(LINE)
        self.assertEqual([type(found)] + [type(number) for number in found], [list] + [int] * len(found))

    def test_sixty_calls(self):
        calls = [tree([0])] + [add(name, added(name)) for name in range(10)] + [FORM] * 49
        found = ask(*calls)
        self.assertEqual(len(found), 60)
        self.assertEqual(found[11:], [found[11]] * 49)
