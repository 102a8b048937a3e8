"""Rows that are drawn, held against a search through all rows equal to them.

The search has its own way to commute, over texts of which each token is marked: a hunk's place is told
by the marks around it. So it shares no arithmetic with the program.
"""

import random
import unittest

from tests.lines import FORM, FRONTS, OUTCOME, ROW, adds, ask, files, hunk, moved, needs, neededby, patches, tree

ROWS_DRAWN = 1000


def names(step):
    return {step[1], step[2]} if step[0] == 4 else {step[1]}


def parts(step):
    """The place, the old and the new tokens of a hunk."""
    count = step[3]
    return step[2], step[4:4 + count], step[5 + count:]


def applied(step, start):
    """The files then; None if the step doesn't fit."""
    there = {name: list(tokens) for name, tokens in start.items()}
    if step[0] in (0, 1, 3, 4) and step[1] not in there:
        return None
    if step[0] == 0:
        place, old, new = parts(step)
        text = there[step[1]]
        if place > len(text) or text[place:place + len(old)] != old:
            return None
        text[place:place + len(old)] = new
    if step[0] == 1:
        there[step[1]] = exchanged(there[step[1]], step)
    if step[0] == 2:
        if step[1] in there:
            return None
        there[step[1]] = []
    if step[0] == 3 and there.pop(step[1]):
        return None
    if step[0] == 4:
        if step[2] in there:
            return None
        there[step[2]] = there.pop(step[1])
    return there


def exchanged(tokens, swap):
    return [swap[3] if token == swap[2] else swap[2] if token == swap[3] else token for token in tokens]


def touched(step):
    """The borders between tokens, counted from 0, that a hunk touches in the text ahead of it and in that behind."""
    place, old, new = parts(step)
    return set(range(place, place + len(old) + 1)), set(range(place, place + len(new) + 1))


def commuted_hunks(p, q):
    if touched(p)[1] & touched(q)[0]:
        return None
    p_place, p_old, p_new = parts(p)
    q_place, q_old, q_new = parts(q)
    marks = [("untouched", k) for k in range(200)]
    text = marks[:p_place] + ["p"] * len(p_new) + marks[p_place + len(p_old):]
    q_mark = text[q_place - 1] if q_place else "beginning"
    q_then = marks.index(q_mark) + 1 if q_mark != "beginning" else 0
    text = marks[:q_then] + ["q"] * len(q_new) + marks[q_then + len(q_old):]
    p_then = text.index(marks[p_place - 1]) + 1 if p_place else 0
    return hunk(q[1], q_then, q_old, q_new), hunk(p[1], p_then, p_old, p_new)


def commuted_in_one_file(p, q):
    if p[0] == 0 and q[0] == 0:
        return commuted_hunks(p, q)
    if p[0] == 1 and q[0] == 1:
        return None if {p[2], p[3]} & {q[2], q[3]} else (q, p)
    swap, other = (p, q) if p[0] == 1 else (q, p)
    place, old, new = parts(other)
    then = hunk(other[1], place, exchanged(old, swap), exchanged(new, swap))
    return (then, p) if p[0] == 1 else (q, then)


def commuted(p, q):
    if not names(p) & names(q):
        return q, p
    if p[0] <= 1 and q[0] <= 1:
        return commuted_in_one_file(p, q)
    if p[0] == 4 and q[0] <= 1:
        return [q[0], p[1]] + q[2:], p
    if p[0] <= 1 and q[0] == 4:
        return q, [p[0], q[2]] + p[2:]
    return None


def equal_rows(row):
    """All rows equal to this one, by their orders."""
    found = {tuple(name for name, step in row): row}
    waiting = [row]
    while waiting:
        here = waiting.pop()
        for k in range(len(here) - 1):
            pair = commuted(here[k][1], here[k + 1][1])
            if pair is not None:
                then = here[:k] + [(here[k + 1][0], pair[0]), (here[k][0], pair[1])] + here[k + 2:]
                order = tuple(name for name, step in then)
                if order not in found:
                    found[order] = then
                    waiting.append(then)
                elif found[order] != then:
                    raise AssertionError("two equal rows of one order")
    return found


def drawn_step(draw, there):
    """Some step, often one that fits."""
    kind = draw.choice([0, 0, 0, 0, 1, 1, 2, 3, 4, 4])
    file = draw.choice(sorted(there) or [0])
    text = there.get(file, [])
    if kind == 0:
        place = draw.randint(0, len(text))
        old = text[place:place + draw.randint(0, 2)]
        new = [draw.randint(0, 5) for k in range(draw.randint(0 if old else 1, 3))]
        return hunk(file, place, old, new)
    if kind == 1:
        return [1, file] + draw.sample(range(6), 2)
    if kind == 4:
        return moved(file, draw.choice([name for name in range(5) if name != file]))
    return [kind, draw.randint(0, 4)]


def drawn(draw):
    start = {name: [draw.randint(0, 5) for k in range(draw.randint(0, 9))] for name in draw.sample(range(4), 2)}
    free = draw.sample(range(100), 10)
    row = []
    there = start
    for k in range(draw.randint(2, 6)):
        step = drawn_step(draw, there)
        then = applied(step, there)
        if then is not None:
            row.append((free.pop(), step))
            there = then
    return start, row, there


def always_ahead(orders, one, other):
    return all(order.index(one) < order.index(other) for order in orders)


class AgainstSearch(unittest.TestCase):
    def hold(self, start, row, outcome):
        equal = equal_rows(row)
        order = [name for name, step in row]
        calls = [call(name) for name in order for call in (needs, neededby)]
        found = ask(tree(files(start)), *adds(row), ROW, OUTCOME, FRONTS, FORM, *calls)[1 + len(row):]
        fronts = sorted({order_then[0] for order_then in equal if order_then})
        expected = [patches(row), files(outcome), [len(fronts)] + fronts, patches(equal[min(equal)])]
        for name in order:
            ahead = [one for one in order if one != name and always_ahead(equal, one, name)]
            behind = [one for one in order if one != name and always_ahead(equal, name, one)]
            expected += [[len(ahead)] + ahead, [len(behind)] + behind]
        self.assertEqual(found, expected)
        return equal

    def test_drawn_rows(self):
        draw = random.Random(62)
        orders = 0
        for number in range(ROWS_DRAWN):
            start, row, outcome = drawn(draw)
            with self.subTest(number=number, start=start, row=row):
                orders += len(self.hold(start, row, outcome))
        self.assertGreater(orders, 3 * ROWS_DRAWN, "too few of the rows have others equal to them")

    def test_equal_rows_can_be_added_and_have_one_form_and_outcome(self):
        draw = random.Random(26)
        for number in range(ROWS_DRAWN // 10):
            start, row, outcome = drawn(draw)
            form = patches(equal_rows(row)[min(equal_rows(row))])
            for then in list(equal_rows(row).values())[:50]:
                with self.subTest(number=number, start=start, row=then):
                    found = ask(tree(files(start)), *adds(then), OUTCOME, FORM)
                    self.assertEqual(found[1:], [[k] for k in range(len(row))] + [files(outcome), form])
