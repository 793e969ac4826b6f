"""Plain kinds of values that several parts ask for; all of these accept any value."""


def is_integer(thing):
    """Whether it is an integer; Python would take True for 1, the package does not."""
    return isinstance(thing, int) and not isinstance(thing, bool)


def is_integer_from(thing, low, high):
    """Whether it is an integer from low to high, both included."""
    return is_integer(thing) and low <= thing <= high


def are_integers_below(thing, bound):
    """Whether it is a tuple of integers from 0 to bound - 1."""
    return isinstance(thing, tuple) and all(is_integer_from(item, 0, bound - 1) for item in thing)


def is_ascending(integers):
    """Whether each integer of a tuple is less than the next one."""
    return all(integers[at] < integers[at + 1] for at in range(len(integers) - 1))


def has_form(thing, word, parts):
    """Whether it is a tuple of the word and so many further parts of any kind."""
    return isinstance(thing, tuple) and len(thing) == parts + 1 and thing[0] == word


def is_square(thing, many):
    """Whether it is a tuple of so many tuples of so many integers 0 and 1."""
    if not isinstance(thing, tuple) or len(thing) != many:
        return False
    return all(are_integers_below(row, 2) and len(row) == many for row in thing)
