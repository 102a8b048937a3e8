"""The calls on one object, read from a list of numbers and answered as numbers."""

from patchrows.reading import NotWhole
from patchrows.rows import Patch, names_at_front, names_needing, needed_names, one_form, outcome_of
from patchrows.rows import place_of, row_numbers
from patchrows.steps import step_from_numbers
from patchrows.trees import fits, tree_from_numbers, tree_numbers

TREE = 0
ADD = 1
ROW = 2
OUTCOME = 3
NEEDS = 4
NEEDEDBY = 5
FRONTS = 6
FORM = 7
EQUAL = 8
KTH = 10
ORDER = 12
PICK = 13
DROP = 14

NOT_AS_TOLD = -1
NO_SUCH_PATCH = -2
BAD_NAME = -3
NO_FIT = -4
ROW_FULL = -6
NO_TREE = -8

LAST_PATCH_NAME = 99
MOST_PATCHES = 10


class History:
    def __init__(self):
        self.start = None
        self.patches = []

    def tree(self, files_told):
        try:
            start = tree_from_numbers(files_told)
        except NotWhole:
            return [NOT_AS_TOLD]
        self.start = start
        self.patches = []
        return [len(start)]

    def add(self, name, step_told):
        if name < 0 or name > LAST_PATCH_NAME:
            return [BAD_NAME]
        try:
            step = step_from_numbers(step_told)
        except NotWhole:
            return [NOT_AS_TOLD]
        if place_of(self.patches, name) is not None:
            return [BAD_NAME]
        if len(self.patches) >= MOST_PATCHES:
            return [ROW_FULL]
        if not fits(step, outcome_of(self.start, self.patches)):
            return [NO_FIT]
        self.patches = self.patches + [Patch(name, step)]
        return [len(self.patches) - 1]

    def row(self):
        return row_numbers(self.patches)

    def outcome(self):
        return tree_numbers(outcome_of(self.start, self.patches))

    def needs(self, name):
        place = place_of(self.patches, name)
        if place is None:
            return [NO_SUCH_PATCH]
        return counted(needed_names(self.patches, place))

    def neededby(self, name):
        place = place_of(self.patches, name)
        if place is None:
            return [NO_SUCH_PATCH]
        return counted(names_needing(self.patches, place))

    def fronts(self):
        return counted(names_at_front(self.patches))

    def form(self):
        return row_numbers(one_form(self.patches))


class Call:
    def __init__(self, kind, number, told, after):
        self.kind = kind
        self.number = number
        self.told = told
        self.after = after


def counted(names):
    return [len(names)] + names


def has_number(kind):
    return kind in (ADD, NEEDS, NEEDEDBY, KTH, DROP)


def has_list(kind):
    return kind in (TREE, ADD, EQUAL, ORDER, PICK)


# Also the calls that aren't built yet are read whole: without a tree they are refused like all others.
def read_call(calls, at):
    kind = calls[at]
    after = at + 1
    number = 0
    if has_number(kind):
        number = calls[after]
        after += 1
    told = []
    if has_list(kind):
        count = calls[after]
        told = calls[after + 1:after + 1 + count]
        after += 1 + count
    return Call(kind, number, told, after)


def answer_with_tree(history, call):
    if call.kind == ADD:
        return history.add(call.number, call.told)
    if call.kind == ROW:
        return history.row()
    if call.kind == OUTCOME:
        return history.outcome()
    if call.kind == NEEDS:
        return history.needs(call.number)
    if call.kind == NEEDEDBY:
        return history.neededby(call.number)
    if call.kind == FRONTS:
        return history.fronts()
    if call.kind == FORM:
        return history.form()
    raise NotImplementedError("this call isn't built yet")


def answer_of(history, call):
    if call.kind == TREE:
        return history.tree(call.told)
    if history.start is None:
        return [NO_TREE]
    return answer_with_tree(history, call)


def answers(calls):
    history = History()
    answered = []
    at = 0
    while at < len(calls):
        call = read_call(calls, at)
        answer = answer_of(history, call)
        answered.append(len(answer))
        answered.extend(answer)
        at = call.after
    return answered
