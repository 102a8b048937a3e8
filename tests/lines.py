"""Calls as numbers, and the answers taken apart: what all tests share."""

from patchrows.history import answers

ROW = [2]
OUTCOME = [3]
FRONTS = [6]
FORM = [7]
COUNT = [9]
RANK = [11]
FAR = 10 ** 18


def tree(numbers):
    return [0, len(numbers)] + numbers


def add(name, step):
    return [1, name, len(step)] + step


def needs(name):
    return [4, name]


def neededby(name):
    return [5, name]


def equal(numbers):
    return [8, len(numbers)] + numbers


def kth(number):
    return [10, number]


def order(names):
    return [12, len(names)] + names


def pick(names):
    return [13, len(names)] + names


def drop(name):
    return [14, name]


def hunk(file, place, old, new):
    return [0, file, place, len(old)] + old + [len(new)] + new


def swap(file, first, second):
    return [1, file, first, second]


def added(file):
    return [2, file]


def removed(file):
    return [3, file]


def moved(old, new):
    return [4, old, new]


def files(told):
    """A tree as numbers, from a dict of a file's name to its tokens."""
    numbers = [len(told)]
    for name in sorted(told):
        numbers += [name, len(told[name])] + list(told[name])
    return numbers


def patches(told):
    """A row of patches as numbers, from pairs of a name and a step."""
    numbers = [len(told)]
    for name, step in told:
        numbers += [name] + step
    return numbers


def taken_apart(numbers):
    found = []
    at = 0
    while at < len(numbers):
        count = numbers[at]
        found.append(numbers[at + 1:at + 1 + count])
        assert len(found[-1]) == count, "fewer numbers than were told"
        at += 1 + count
    return found


def ask(*calls):
    """The answer of each call, in order, on one new object."""
    line = []
    for call in calls:
        line += call
    return taken_apart(answers(line))


def last(*calls):
    return ask(*calls)[-1]


def adds(told):
    return [add(name, step) for name, step in told]
