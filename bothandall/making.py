"""Houses from houses, and houses that are alike."""

from bothandall.errors import BadLot, TooMany
from bothandall.houses import MOST_LOTS, require_house, require_lots
from bothandall.kinds import are_integers_below, has_form


def turned_over(house):
    """The house in which the lots around a lot are those that were within it."""
    require_house(house)
    return tuple([tuple(column) for column in zip(*house)])


def require_two(one, other):
    """Raise BadHouse with the first of two values that is no house."""
    require_house(one)
    require_house(other)


def require_at_most(many):
    """Raise TooMany if there would be more lots than a house can have."""
    if many > MOST_LOTS:
        raise TooMany(MOST_LOTS)


def beside(one, other):
    """The house of pairs of lots, one of each house."""
    require_two(one, other)
    require_at_most(len(one) * len(other))
    return tuple(tuple(a * b for a in row for b in more) for row in one for more in other)


def above(one, other):
    """The house of the lots of the first house, and of those of the second one above them."""
    require_two(one, other)
    require_at_most(len(one) + len(other))
    low = [row + (1,) * len(other) for row in one]
    high = [(0,) * len(one) + row for row in other]
    return tuple(low + high)


def stretch(house, x, y):
    """The house of the lots between two lots, numbered anew."""
    require_lots(house, (x, y))
    if house[x][y] == 0:
        raise BadLot(y)
    kept = [z for z in range(len(house)) if house[x][z] == 1 and house[z][y] == 1]
    return tuple(tuple(house[a][b] for b in kept) for a in kept)


def judge_alike(one, other):
    """A renaming that leads the first house to the second one, or that there is none."""
    require_two(one, other)
    renaming = find_renaming(one, other, [0] * len(one), [0] * len(other))
    if renaming is None:
        return ("unlike",)
    return ("alike", renaming)


def alike_holds(one, other, thing):
    """Whether any value tells rightly whether two houses are alike."""
    require_two(one, other)
    if has_form(thing, "alike", 1):
        return is_renaming(one, other, thing[1])
    return has_form(thing, "unlike", 0) and judge_alike(one, other) == ("unlike",)


def is_renaming(one, other, thing):
    """Whether any value is a renaming that leads the first house to the second one."""
    if len(one) != len(other) or not are_integers_below(thing, len(one)):
        return False
    if sorted(thing) != list(range(len(one))):
        return False
    return all(one[x][y] == other[thing[x]][thing[y]] for x in range(len(one)) for y in range(len(one)))


def find_renaming(one, other, marks, others):
    """A renaming that leads each lot to one of an equal mark, None if there is none."""
    marks, others = told_apart(one, other, marks, others)
    if sorted(marks) != sorted(others):
        return None
    x = first_shared(marks)
    if x is None:
        # Marks that are told apart fully and fit the lots around one another are a renaming.
        return tuple(others.index(mark) for mark in marks)
    for y in range(len(others)):
        if others[y] == marks[x]:
            renaming = find_renaming(one, other, marked(marks, x), marked(others, y))
            if renaming is not None:
                return renaming
    return None


def told_apart(one, other, marks, others):
    """Marks that differ where the lots within and around two lots have unlike marks."""
    many = 0
    while True:
        signs, other_signs = signs_of(one, marks), signs_of(other, others)
        seen = sorted(set(signs + other_signs))
        names = {sign: at for at, sign in enumerate(seen)}
        marks = [names[sign] for sign in signs]
        others = [names[sign] for sign in other_signs]
        if len(seen) == many:
            return marks, others
        many = len(seen)


def signs_of(house, marks):
    """For each lot its mark, and the sorted marks of the lots that are around and within it."""
    lots = range(len(house))
    signs = []
    for x in lots:
        around = sorted([marks[y] for y in lots if house[x][y] == 1])
        within = sorted([marks[y] for y in lots if house[y][x] == 1])
        signs.append((marks[x], tuple(around), tuple(within)))
    return signs


def first_shared(marks):
    """The first lot whose mark another lot has, too; None if there is none."""
    for x, mark in enumerate(marks):
        if marks.count(mark) > 1:
            return x
    return None


def marked(marks, x):
    """The marks with one that no other lot has, less than all, at a lot."""
    return marks[:x] + [-1] + marks[x + 1:]
