"""The calls on one object, read from a list of numbers and answered as numbers."""

from patchrows.orders import Orders
from patchrows.reading import NotWhole
from patchrows.rows import LAST_PATCH_NAME, MOST_PATCHES, Patch, are_equal, brought_in_order, names_at_front
from patchrows.rows import names_in, names_needing, names_with_needed, needed_names, one_form, outcome_of
from patchrows.rows import place_of, row_from_numbers, row_numbers, taken_out
from patchrows.steps import step_from_numbers
from patchrows.trees import fits, tree_from_numbers, tree_numbers

TREE = 0
ADD = 1
ROW = 2
OUTCOME = 3
NEEDS = 4
NEEDEDBY = 5
FRONTS = 6
FORM = 7
EQUAL = 8
COUNT = 9
KTH = 10
ORDER = 12
PICK = 13
DROP = 14

NOT_AS_TOLD = -1
NO_SUCH_PATCH = -2
BAD_NAME = -3
NO_FIT = -4
BAD_NUMBER = -4
NO_ROW = -5
ROW_FULL = -6
NOT_ALL = -7
NO_TREE = -8


class History:
    def __init__(self):
        self.start = None
        self.patches = []

    def tree(self, files_told):
        try:
            start = tree_from_numbers(files_told)
        except NotWhole:
            return [NOT_AS_TOLD]
        self.start = start
        self.patches = []
        return [len(start)]

    def add(self, name, step_told):
        if name < 0 or name > LAST_PATCH_NAME:
            return [BAD_NAME]
        try:
            step = step_from_numbers(step_told)
        except NotWhole:
            return [NOT_AS_TOLD]
        if place_of(self.patches, name) is not None:
            return [BAD_NAME]
        if len(self.patches) >= MOST_PATCHES:
            return [ROW_FULL]
        if not fits(step, outcome_of(self.start, self.patches)):
            return [NO_FIT]
        self.patches = self.patches + [Patch(name, step)]
        return [len(self.patches) - 1]

    def row(self):
        return row_numbers(self.patches)

    def outcome(self):
        return tree_numbers(outcome_of(self.start, self.patches))

    def needs(self, name):
        place = place_of(self.patches, name)
        if place is None:
            return [NO_SUCH_PATCH]
        return counted(needed_names(self.patches, place))

    def neededby(self, name):
        place = place_of(self.patches, name)
        if place is None:
            return [NO_SUCH_PATCH]
        return counted(names_needing(self.patches, place))

    def fronts(self):
        return counted(names_at_front(self.patches))

    def form(self):
        return row_numbers(one_form(self.patches))

    def equal(self, row_told):
        try:
            other = row_from_numbers(row_told, self.start)
        except NotWhole:
            return [NO_ROW]
        return [1 if are_equal(self.patches, other) else 0]

    def count(self):
        return [Orders(self.patches).how_many()]

    def kth(self, number):
        if number < 0:
            return [BAD_NUMBER]
        orders = Orders(self.patches)
        if number >= orders.how_many():
            return [0]
        return [1] + counted(orders.numbered(number))

    def rank(self):
        return [Orders(self.patches).number_of(names_in(self.patches))]

    def order(self, names):
        if not are_own_names(self.patches, names):
            return [NO_SUCH_PATCH]
        if len(names) < len(self.patches):
            return [NOT_ALL]
        placed = brought_in_order(self.patches, names)[0]
        if len(placed) < len(names):
            return [0, len(placed)]
        self.patches = placed
        return [1]

    def pick(self, names):
        if not are_own_names(self.patches, names):
            return [NO_SUCH_PATCH]
        picked = names_with_needed(self.patches, names)
        brought = brought_in_order(self.patches, picked)
        self.patches = brought[0] + brought[1]
        return [1] + counted(picked)

    def drop(self, name):
        place = place_of(self.patches, name)
        if place is None:
            return [NO_SUCH_PATCH]
        left = taken_out(self.patches, place)
        if left is None:
            return [0] + counted(names_needing(self.patches, place))
        self.patches = left
        return [1, len(left)]


class Call:
    def __init__(self, kind, number, told, after):
        self.kind = kind
        self.number = number
        self.told = told
        self.after = after


def counted(names):
    return [len(names)] + names


def are_own_names(row, names):
    known = names_in(row)
    return len(set(names)) == len(names) and all([name in known for name in names])


def has_number(kind):
    return kind in (ADD, NEEDS, NEEDEDBY, KTH, DROP)


def has_list(kind):
    return kind in (TREE, ADD, EQUAL, ORDER, PICK)


def read_call(calls, at):
    kind = calls[at]
    after = at + 1
    number = 0
    if has_number(kind):
        number = calls[after]
        after += 1
    told = []
    if has_list(kind):
        count = calls[after]
        told = calls[after + 1:after + 1 + count]
        after += 1 + count
    return Call(kind, number, told, after)


def answer_to_kind(history, kind):
    if kind == ROW:
        return history.row()
    if kind == OUTCOME:
        return history.outcome()
    if kind == FRONTS:
        return history.fronts()
    if kind == FORM:
        return history.form()
    if kind == COUNT:
        return history.count()
    return history.rank()


def answer_to_number(history, kind, number):
    if kind == NEEDS:
        return history.needs(number)
    if kind == NEEDEDBY:
        return history.neededby(number)
    if kind == KTH:
        return history.kth(number)
    return history.drop(number)


def answer_to_list(history, kind, told):
    if kind == EQUAL:
        return history.equal(told)
    if kind == ORDER:
        return history.order(told)
    return history.pick(told)


def answer_with_tree(history, call):
    if call.kind == ADD:
        return history.add(call.number, call.told)
    if has_number(call.kind):
        return answer_to_number(history, call.kind, call.number)
    if has_list(call.kind):
        return answer_to_list(history, call.kind, call.told)
    return answer_to_kind(history, call.kind)


def answer_of(history, call):
    if call.kind == TREE:
        return history.tree(call.told)
    if history.start is None:
        return [NO_TREE]
    return answer_with_tree(history, call)


def answers(calls):
    history = History()
    answered = []
    at = 0
    while at < len(calls):
        call = read_call(calls, at)
        answer = answer_of(history, call)
        answered.append(len(answer))
        answered.extend(answer)
        at = call.after
    return answered
