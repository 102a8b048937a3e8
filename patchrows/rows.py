"""Rows of patches: as numbers, brought to the front or behind others, the one form, what a patch needs."""

from patchrows.commuting import commuted
from patchrows.reading import NotWhole, Reader
from patchrows.steps import read_step, step_numbers
from patchrows.trees import applied, fits

LAST_PATCH_NAME = 99
MOST_PATCHES = 10


class Patch:
    def __init__(self, name, step):
        self.name = name
        self.step = step


def names_in(row):
    return [patch.name for patch in row]


def place_of(row, name):
    for place, patch in enumerate(row):
        if patch.name == name:
            return place
    return None


def row_numbers(row):
    numbers = [len(row)]
    for patch in row:
        numbers.append(patch.name)
        numbers.extend(step_numbers(patch.step))
    return numbers


def read_patch(reader):
    name = reader.read_number(0, LAST_PATCH_NAME)
    return Patch(name, read_step(reader))


def row_from_numbers(numbers, tree):
    reader = Reader(numbers)
    row = []
    there = tree
    for place in range(reader.read_number(0, MOST_PATCHES)):
        patch = read_patch(reader)
        if place_of(row, patch.name) is not None:
            raise NotWhole("a name told twice")
        if not fits(patch.step, there):
            raise NotWhole("a step that doesn't fit")
        there = applied(patch.step, there)
        row.append(patch)
    reader.read_end()
    return row


def outcome_of(tree, row):
    outcome = tree
    for patch in row:
        outcome = applied(patch.step, outcome)
    return outcome


def commuted_patches(p, q):
    steps = commuted(p.step, q.step)
    if steps is None:
        return None
    return (Patch(q.name, steps[0]), Patch(p.name, steps[1]))


# Gives the whole row as it is then, or None if that patch can't be brought there.
def brought_to_front(row, place):
    front = row[place]
    passed = []
    for ahead in reversed(row[:place]):
        pair = commuted_patches(ahead, front)
        if pair is None:
            return None
        front = pair[0]
        passed.insert(0, pair[1])
    return [front] + passed + row[place + 1:]


# Gives the others as they are when the patch is behind them all, without it, or None if it can't be brought there.
def passed_by(patch, others):
    behind = patch
    passed = []
    for other in others:
        pair = commuted_patches(behind, other)
        if pair is None:
            return None
        passed.append(pair[0])
        behind = pair[1]
    return passed


def names_at_front(row):
    places = [place for place in range(len(row)) if brought_to_front(row, place) is not None]
    return sorted([row[place].name for place in places])


def one_form(row):
    form = []
    rest = row
    while len(rest) > 0:
        # The first patch is at the front already, so there's always a least name.
        least = names_at_front(rest)[0]
        rest = brought_to_front(rest, place_of(rest, least))
        form.append(rest[0])
        rest = rest[1:]
    return form


def are_equal(row, other):
    return row_numbers(one_form(row)) == row_numbers(one_form(other))


# Gives those that are in their places and the others behind them; it stops at the first that can't be brought there.
def brought_in_order(row, names):
    placed = []
    rest = row
    for name in names:
        then = brought_to_front(rest, place_of(rest, name))
        if then is None:
            return (placed, rest)
        placed.append(then[0])
        rest = then[1:]
    return (placed, rest)


def needed_names(row, place):
    group = [row[place]]
    for ahead in reversed(row[:place]):
        passed = passed_by(ahead, group)
        if passed is None:
            group = [ahead] + group
        else:
            group = passed
    return names_in(group[:-1])


def names_needing(row, place):
    name = row[place].name
    return [row[later].name for later in range(place + 1, len(row)) if name in needed_names(row, later)]


def names_with_needed(row, names):
    picked = list(names)
    for name in names:
        picked.extend(needed_names(row, place_of(row, name)))
    return [patch.name for patch in row if patch.name in picked]


# Gives the row without that patch, or None if it can't be brought to the end.
def taken_out(row, place):
    passed = passed_by(row[place], row[place + 1:])
    if passed is None:
        return None
    return row[:place] + passed
