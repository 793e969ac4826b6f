"""The errors of the package: each one keeps what was wrong as an attribute."""


class HouseError(Exception):
    """The base class of all errors that the package raises."""


class BadNumber(HouseError):
    """An integer is asked for, within bounds, and something else is there."""

    def __init__(self, thing):
        self.thing = thing


class BadTable(HouseError):
    """Not a table of noughts and ones."""

    def __init__(self, thing):
        self.thing = thing


class BadHouse(HouseError):
    """Not a house, or not one of the kind that is asked for."""

    def __init__(self, thing):
        self.thing = thing


class BadLot(HouseError):
    """Not a lot of the house, or not lots of it."""

    def __init__(self, thing):
        self.thing = thing


class BadFacts(HouseError):
    """Not a lot of facts."""

    def __init__(self, thing):
        self.thing = thing


class BadRules(HouseError):
    """Not rules of so many facts."""

    def __init__(self, thing):
        self.thing = thing


class BadThing(HouseError):
    """Not a thing of the kind and the size that are asked for."""

    def __init__(self, thing):
        self.thing = thing


class BadTold(HouseError):
    """Not told pairs of so many hands."""

    def __init__(self, thing):
        self.thing = thing


class BadMap(HouseError):
    """Not a map from the one house to the other one."""

    def __init__(self, thing):
        self.thing = thing


class OtherSize(HouseError):
    """A row of another number of hands."""

    def __init__(self, thing):
        self.thing = thing


class BadRow(HouseError):
    """Not a row of the house."""

    def __init__(self, thing):
        self.thing = thing


class BadMeeting(HouseError):
    """Not a meeting of the hands."""

    def __init__(self, thing):
        self.thing = thing


class BadPlan(HouseError):
    """Not a plan of so many hands."""

    def __init__(self, thing):
        self.thing = thing


class BadLine(HouseError):
    """Not a line of as many lots as are asked for."""

    def __init__(self, thing):
        self.thing = thing


class BadWay(HouseError):
    """Not one of the words that are asked for."""

    def __init__(self, thing):
        self.thing = thing


class BadTies(HouseError):
    """Not ties of so many hands."""

    def __init__(self, thing):
        self.thing = thing


class HasRing(HouseError):
    """The ties have a ring."""

    def __init__(self, certificate):
        self.certificate = certificate


class TooMany(HouseError):
    """There would be more than the most that is allowed."""

    def __init__(self, most):
        self.most = most


class BadText(HouseError):
    """Not the text of a desk."""

    def __init__(self, at):
        self.at = at


class BadPromise(HouseError):
    """Not a promise that is asked for."""

    def __init__(self, thing):
        self.thing = thing


class Broken(HouseError):
    """A promise would not be kept."""

    def __init__(self, promise):
        self.promise = promise


class NothingToUndo(HouseError):
    """There is no deed to undo."""


class NothingToRedo(HouseError):
    """There is no undone deed to do again."""
