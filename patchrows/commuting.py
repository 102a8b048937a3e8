"""How a step and the step behind it are commuted."""

from patchrows.steps import Hunk, Moved, Swap, swapped_tokens


def names_of(step):
    if isinstance(step, Moved):
        return (step.old_name, step.new_name)
    return (step.file,)


def is_inside(step):
    return isinstance(step, Hunk) or isinstance(step, Swap)


def have_common_name(p, q):
    names = names_of(q)
    return any([name in names for name in names_of(p)])


def shifted(hunk, by):
    return Hunk(hunk.file, hunk.place + by, hunk.old, hunk.new)


def swapped_hunk(hunk, swap):
    return Hunk(hunk.file, hunk.place, swapped_tokens(hunk.old, swap), swapped_tokens(hunk.new, swap))


def inside_file(step, file):
    if isinstance(step, Hunk):
        return Hunk(file, step.place, step.old, step.new)
    return Swap(file, step.first, step.second)


def commuted_hunks(p, q):
    if q.place > p.place + len(p.new):
        return (shifted(q, len(p.old) - len(p.new)), p)
    if p.place > q.place + len(q.old):
        return (q, shifted(p, len(q.new) - len(q.old)))
    return None


def commuted_swaps(p, q):
    tokens = (q.first, q.second)
    if p.first in tokens or p.second in tokens:
        return None
    return (q, p)


def commuted_inside(p, q):
    if isinstance(p, Hunk) and isinstance(q, Hunk):
        return commuted_hunks(p, q)
    if isinstance(p, Swap) and isinstance(q, Swap):
        return commuted_swaps(p, q)
    if isinstance(p, Hunk):
        return (q, swapped_hunk(p, q))
    return (swapped_hunk(q, p), p)


# Gives the step that comes first then and the one behind it, or None if they can't be commuted.
def commuted(p, q):
    if not have_common_name(p, q):
        return (q, p)
    if is_inside(p) and is_inside(q):
        return commuted_inside(p, q)
    if isinstance(p, Moved) and is_inside(q) and q.file == p.new_name:
        return (inside_file(q, p.old_name), p)
    if is_inside(p) and isinstance(q, Moved) and p.file == q.old_name:
        return (q, inside_file(p, q.new_name))
    return None
