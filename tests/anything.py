"""Any values, and values that are nearly right."""

from bothandall.desks import Desk


def worked_desk():
    """A desk with a promise, two deeds to undo and one to do again."""
    desk = Desk(3, (((0, 1), 2),), ((0,), (1,)))
    desk.promise(("lacks", 0, 2))
    desk.meet((0, 1))
    desk.learn(0, 1)
    desk.undo()
    return desk


# Desks that many tests pass, and none may change.
DESKS = (worked_desk(), Desk(1, (), ((),)))


def standings():
    """All that can be told of the desks."""
    return [(desk.standing(), desk.undoable(), desk.redoable()) for desk in DESKS]


def nested(depth):
    value = ()
    for _ in range(depth):
        value = (value,)
    return value


def nested_lists(depth):
    value = []
    for _ in range(depth):
        value = [value]
    return value


def any_values():
    """Values of all kinds, none of which is a right one of a larger kind by chance alone."""
    return [
        None, True, False, 0, 1, 2, 3, 5, 6, 7, 8, 23, 24, 25, -1, -6, 10 ** 99, -(10 ** 99), 2 ** 64,
        "", "0", "1", "house", "steps", "own", "alike", "()", "a" * 1000, "a b~\n",
        (), (0,), (1,), (True,), (False,), (None,), ("",), ("house",), ("unlike",), ("steps",), ("closed",),
        [], [0], [[1]], [()], {}, {0: 0}, {"house": 1}, {(): []}, {(0, 1): ((0,), 1)},
        ((),), ((), ()), ([],), ({},), ((1,),), ((0,),), ((True,),), ([1],), [(1,)], ((1, 0),), ((1,), (1,)),
        ((0, 1),), ((0, 1), 2), (((0, 1), 2),), ((), 0), (((), 0),), (((), True),), [((), 0)], ([(), 0],),
        ((1, 0), (0, 1)), ((1, 1), (0, 1)), ((1, 1), (1, 1)), ((1, 1), (False, 1)), [(1, 1), (0, 1)],
        nested(9), nested_lists(9), tuple(range(1000)), (0,) * 1999, (((),) * 999,), list(range(999)),
        *DESKS, (DESKS[0],), {"a": DESKS[0]}, [DESKS[1], ()], (DESKS[1], 0, 1), (DESKS[0], DESKS[1]),
    ]


def near_integer(value):
    found = [value + 1, value - 1, -value - 1, value + 10 ** 99, str(value), None, (value,), [value], {value: value}]
    if value in (0, 1):
        found.append(value == 1)
    return found


def near_word(value):
    return [value + " ", value[:-1], value.upper(), "", value * 2, None, (value,), [value], list(value), 0]


def near_tuple(value):
    found = [list(value), (value,), value + value, value[::-1], value + (0,), (0,) + value, value + (None,)]
    found += [value + ((),), value[1:], value[:-1], dict(enumerate(value)), repr(value)]
    for at in range(len(value)):
        found.append(value[:at] + value[at + 1:])
        found.append(value[:at] + value[at:at + 1] + value[at:])
        found.append(value[:at] + ((value[at],),) + value[at + 1:])
        if at:
            found.append(value[:at - 1] + (value[at], value[at - 1]) + value[at + 1:])
    return found


def near(value):
    """Values that differ from a value of integers, words and tuples in one place."""
    if isinstance(value, bool) or value is None:
        return [0, 1, "", ()]
    if isinstance(value, int):
        return near_integer(value)
    if isinstance(value, str):
        return near_word(value)
    found = near_tuple(value)
    for at, part in enumerate(value):
        for other in near(part) + [None, True, False, 0, "", (), [], {}, DESKS[0]]:
            found.append(value[:at] + (other,) + value[at + 1:])
    return found


def is_plain(value):
    """Whether it consists of words, None, integers that are no bools, and tuples of such."""
    if isinstance(value, tuple):
        return type(value) is tuple and all(is_plain(part) for part in value)
    return value is None or type(value) in (int, str)


def is_equal(value, other):
    """Whether two values are equal, True and 1 being told apart, and so lists and tuples."""
    if type(value) is not type(other):
        return False
    if isinstance(value, (tuple, list)):
        return len(value) == len(other) and all(is_equal(a, b) for a, b in zip(value, other))
    return value == other
