"""Lines of all calls that are drawn, held against a search through all equal rows."""

import collections
import random
import unittest

from tests.lines import (COUNT, FAR, FORM, FRONTS, OUTCOME, RANK, ROW, add, ask, drop, equal, files, kth, needs,
                         neededby, order, patches, pick, tree)
from tests.test_against_search import always_ahead, applied, drawn_step, equal_rows
from tests.test_add import NO_STEP
from tests.test_tree import NOT_WHOLE

LINES_DRAWN = 400
MOST_DRAWN_PATCHES = 6


def told(found):
    return [len(found)] + list(found)


class Searched:
    """What each call answers, by a search alone. Steps that are told to it are whole, but for None."""

    def __init__(self):
        self.start = None
        self.stand([])

    def stand(self, row):
        self.row = row
        self.names = tuple(name for name, step in row)
        self.rows = equal_rows(row)

    def files_now(self):
        there = self.start
        for name, step in self.row:
            there = applied(step, there)
        return there

    def tree(self, start):
        if start is None:
            return [-1]
        self.start = start
        self.stand([])
        return [len(start)]

    def add(self, name, step):
        if not 0 <= name <= 99:
            return [-3]
        if step is None:
            return [-1]
        if name in self.names:
            return [-3]
        if len(self.row) == 10:
            return [-6]
        if applied(step, self.files_now()) is None:
            return [-4]
        self.stand(self.row + [(name, step)])
        return [len(self.row) - 1]

    def needed(self, name):
        return [one for one in self.names if one != name and always_ahead(self.rows, one, name)]

    def needing(self, name):
        return [one for one in self.names if one != name and always_ahead(self.rows, name, one)]

    def equal(self, row):
        there = self.start
        for name, step in row or []:
            there = applied(step, there) if there is not None else None
        if row is None or there is None:
            return [-5]
        return [1 if row in self.rows.values() else 0]

    def kth(self, number):
        if number < 0:
            return [-4]
        orders = sorted(self.rows)
        return [1] + told(orders[number]) if number < len(orders) else [0]

    def unknown(self, names):
        return len(set(names)) < len(names) or not set(names) <= set(self.names)

    def order(self, names):
        if self.unknown(names):
            return [-2]
        if len(names) < len(self.names):
            return [-7]
        if tuple(names) in self.rows:
            self.stand(self.rows[tuple(names)])
            return [1]
        return [0, max(k for k in range(len(names)) if any(then[:k] == tuple(names[:k]) for then in self.rows))]

    def pick(self, names):
        if self.unknown(names):
            return [-2]
        wanted = set(names).union(*[self.needed(name) for name in names])
        front = tuple(name for name in self.names if name in wanted)
        self.stand(self.rows[front + tuple(name for name in self.names if name not in wanted)])
        return [1] + told(front)

    def drop(self, name):
        if name not in self.names:
            return [-2]
        at_end = tuple(one for one in self.names if one != name) + (name,)
        if at_end not in self.rows:
            return [0] + told(self.needing(name))
        self.stand(self.rows[at_end][:-1])
        return [1, len(self.row)]

    def asked(self):
        """The calls without numbers, each with its answer."""
        fronts = sorted({then[0] for then in self.rows if then})
        return [(ROW, patches(self.row)), (OUTCOME, files(self.files_now())), (FRONTS, told(fronts)),
                (FORM, patches(self.rows[min(self.rows)])), (COUNT, [len(self.rows)]),
                (RANK, [sorted(self.rows).index(self.names)])]


class Drawn:
    """A line that is drawn call by call, with the answer of each."""

    def __init__(self, seed):
        self.draw = random.Random(seed)
        self.searched = Searched()
        self.calls = []
        self.found = []
        for number in range(self.draw.randint(20, 60)):
            self.next_call()

    def take(self, call, answer):
        self.calls.append(call)
        self.found.append(answer)

    def some_name(self):
        return self.draw.choice(list(self.searched.names) * 3 + [self.draw.randint(0, 99), -1, 100, FAR, -FAR])

    def some_names(self):
        names = self.draw.sample(self.searched.names, self.draw.randint(0, len(self.searched.names)))
        if self.draw.random() < 0.15:
            names.insert(self.draw.randint(0, len(names)), self.some_name())
        return names

    def all_names(self):
        if self.draw.random() < 0.4:
            return list(self.draw.choice(sorted(self.searched.rows)))
        return self.draw.sample(self.searched.names, len(self.searched.names))

    def next_call(self):
        if self.searched.start is None or self.draw.random() < 0.03:
            return self.next_tree()
        ways = [self.next_add] * 4 + [self.next_asked] * 4 + [self.next_needs, self.next_equal, self.next_kth]
        self.draw.choice(ways + [self.next_order] * 2 + [self.next_pick, self.next_drop])()

    def next_tree(self):
        if self.draw.random() < 0.3:
            return self.take(tree(self.draw.choice(list(NOT_WHOLE.values()))), self.searched.tree(None))
        start = {name: [self.draw.randint(0, 5) for k in range(self.draw.randint(0, 9))]
                 for name in self.draw.sample(range(4), 2)}
        self.take(tree(files(start)), self.searched.tree(start))

    def next_add(self):
        name = self.draw.randint(0, 99) if self.draw.random() < 0.9 else self.some_name()
        if self.draw.random() < 0.05:
            return self.take(add(name, self.draw.choice(list(NO_STEP.values()))), self.searched.add(name, None))
        step = drawn_step(self.draw, self.searched.files_now())
        if len(self.searched.row) < MOST_DRAWN_PATCHES:
            self.take(add(name, step), self.searched.add(name, step))

    def next_asked(self):
        self.take(*self.draw.choice(self.searched.asked()))

    def next_needs(self):
        name = self.some_name()
        known = name in self.searched.names
        self.take(needs(name), told(self.searched.needed(name)) if known else [-2])
        self.take(neededby(name), told(self.searched.needing(name)) if known else [-2])

    def next_equal(self):
        row = list(self.draw.choice(list(self.searched.rows.values())))
        way = self.draw.randint(0, 6)
        if way == 0:
            return self.take(equal(patches(row) + [self.draw.randint(0, 9)]), self.searched.equal(None))
        if way == 1:
            return self.take(equal(patches(row)[:-1]), self.searched.equal(None))
        if way == 2 and len(row) > 1:
            self.draw.shuffle(row)
        if way == 3 and row:
            row.pop(self.draw.randrange(len(row)))
        if way == 4 and len(row) > 1:
            (first, p), (second, q) = row[:2]
            row[:2] = [(second, p), (first, q)]
        self.take(equal(patches(row)), self.searched.equal(row))

    def next_kth(self):
        count = len(self.searched.rows)
        number = self.draw.choice([0, count - 1, count, -1, FAR, -FAR] + [self.draw.randrange(count) for k in range(6)])
        self.take(kth(number), self.searched.kth(number))

    def next_order(self):
        names = self.all_names() if self.draw.random() < 0.8 else self.some_names()
        self.take(order(names), self.searched.order(names))

    def next_pick(self):
        names = self.some_names()
        self.take(pick(names), self.searched.pick(names))

    def next_drop(self):
        name = self.some_name()
        self.take(drop(name), self.searched.drop(name))


class DrawnLines(unittest.TestCase):
    def test_each_call_answers_what_the_search_does(self):
        seen = collections.Counter()
        for seed in range(LINES_DRAWN):
            line = Drawn(seed)
            with self.subTest(seed=seed, calls=line.calls):
                self.assertEqual(ask(*line.calls[:60]), line.found[:60])
            seen.update((call[0], answer[0]) for call, answer in zip(line.calls, line.found))
        often = [(8, 0), (8, 1), (8, -5), (10, 0), (10, 1), (10, -4), (12, 0), (12, 1), (12, -2), (12, -7), (13, 1),
                 (13, -2), (14, 0), (14, 1), (14, -2), (9, 1), (9, 2), (11, 0), (11, 1)]
        self.assertEqual([each for each in often if seen[each] < 20], [], "drawn too seldom")
