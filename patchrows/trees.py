"""Trees, a dict from a file's name to its tokens: as numbers, and how steps fit them and are applied."""

from patchrows.reading import LAST_FILE, NotWhole, Reader
from patchrows.steps import Added, Hunk, Removed, Swap, swapped_tokens

MOST_TOLD_FILES = 6
MOST_TOLD_TOKENS = 12


def tree_from_numbers(numbers):
    reader = Reader(numbers)
    tree = {}
    least = 0
    for file in range(reader.read_number(0, MOST_TOLD_FILES)):
        # Each name is read from the one above the last on: this is what makes them rise.
        name = reader.read_number(least, LAST_FILE)
        tree[name] = reader.read_tokens(MOST_TOLD_TOKENS)
        least = name + 1
    reader.read_end()
    return tree


def tree_numbers(tree):
    numbers = [len(tree)]
    for name in sorted(tree):
        numbers.append(name)
        numbers.append(len(tree[name]))
        numbers.extend(tree[name])
    return numbers


def hunk_fits(hunk, tokens):
    if hunk.place > len(tokens):
        return False
    return tokens[hunk.place:hunk.place + len(hunk.old)] == hunk.old


def fits(step, tree):
    if isinstance(step, Hunk):
        return step.file in tree and hunk_fits(step, tree[step.file])
    if isinstance(step, Swap):
        return step.file in tree
    if isinstance(step, Added):
        return step.file not in tree
    if isinstance(step, Removed):
        return step.file in tree and len(tree[step.file]) == 0
    return step.old_name in tree and step.new_name not in tree


def hunk_applied(hunk, tokens):
    return tokens[:hunk.place] + hunk.new + tokens[hunk.place + len(hunk.old):]


# The tree that's handed in stays as it is: it may be the one that a row begins with.
def applied(step, tree):
    changed = dict(tree)
    if isinstance(step, Hunk):
        changed[step.file] = hunk_applied(step, tree[step.file])
    elif isinstance(step, Swap):
        changed[step.file] = swapped_tokens(tree[step.file], step)
    elif isinstance(step, Added):
        changed[step.file] = ()
    elif isinstance(step, Removed):
        changed.pop(step.file)
    else:
        changed[step.new_name] = changed.pop(step.old_name)
    return changed
