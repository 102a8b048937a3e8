"""The five kinds of step, and a step as numbers."""

from patchrows.reading import NotWhole, Reader

HUNK = 0
SWAP = 1
ADDED = 2
REMOVED = 3
MOVED = 4
MOST_HUNK_TOKENS = 8
LAST_TOLD_PLACE = 1000


class Hunk:
    def __init__(self, file, place, old, new):
        self.file = file
        self.place = place
        self.old = old
        self.new = new


class Swap:
    def __init__(self, file, first, second):
        self.file = file
        self.first = first
        self.second = second


class Added:
    def __init__(self, file):
        self.file = file


class Removed:
    def __init__(self, file):
        self.file = file


class Moved:
    def __init__(self, old_name, new_name):
        self.old_name = old_name
        self.new_name = new_name


def read_hunk(reader):
    file = reader.read_file()
    place = reader.read_number(0, LAST_TOLD_PLACE)
    old = reader.read_tokens(MOST_HUNK_TOKENS)
    new = reader.read_tokens(MOST_HUNK_TOKENS)
    if len(old) + len(new) == 0:
        raise NotWhole("a hunk with neither old nor new tokens")
    return Hunk(file, place, old, new)


def read_swap(reader):
    file = reader.read_file()
    first = reader.read_token()
    second = reader.read_token()
    if first == second:
        raise NotWhole("a swap of alike tokens")
    return Swap(file, first, second)


def read_moved(reader):
    old_name = reader.read_file()
    new_name = reader.read_file()
    if old_name == new_name:
        raise NotWhole("a move to its own name")
    return Moved(old_name, new_name)


def read_step(reader):
    kind = reader.read_number(HUNK, MOVED)
    if kind == HUNK:
        return read_hunk(reader)
    if kind == SWAP:
        return read_swap(reader)
    if kind == ADDED:
        return Added(reader.read_file())
    if kind == REMOVED:
        return Removed(reader.read_file())
    return read_moved(reader)


def step_from_numbers(numbers):
    reader = Reader(numbers)
    step = read_step(reader)
    reader.read_end()
    return step


def hunk_numbers(hunk):
    old = [len(hunk.old)] + list(hunk.old)
    new = [len(hunk.new)] + list(hunk.new)
    return [HUNK, hunk.file, hunk.place] + old + new


def step_numbers(step):
    if isinstance(step, Hunk):
        return hunk_numbers(step)
    if isinstance(step, Swap):
        return [SWAP, step.file, step.first, step.second]
    if isinstance(step, Added):
        return [ADDED, step.file]
    if isinstance(step, Removed):
        return [REMOVED, step.file]
    return [MOVED, step.old_name, step.new_name]


def swapped_tokens(tokens, swap):
    other = {swap.first: swap.second, swap.second: swap.first}
    return tuple([other.get(token, token) for token in tokens])
