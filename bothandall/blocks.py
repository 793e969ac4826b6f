"""Partings of places into blocks, told by the number of the block of each place."""

from bothandall.kinds import are_integers_below


def is_parting_of(many, thing):
    """Whether any value parts so many places into blocks, numbered as they come."""
    if not are_integers_below(thing, many) or len(thing) != many:
        return False
    return thing == numbered(thing)


def numbered(marks):
    """The parting in which places with equal marks are together."""
    names = {}
    for mark in marks:
        if mark not in names:
            names[mark] = len(names)
    return tuple(names[mark] for mark in marks)


def put_together(marks, x, y):
    """Marks of places, those of the blocks of two places being made equal."""
    return [marks[x] if mark == marks[y] else mark for mark in marks]


def all_partings(many):
    """The ascending list of all partings of so many places."""
    found = [()]
    for _ in range(many):
        found = [(*blocks, block) for blocks in found for block in range(max(blocks, default=-1) + 2)]
    return found
