"""Calls by position and by name, and the errors that they should raise."""

from itertools import combinations, product
from unittest import TestCase

from bothandall.errors import HouseError
from tests.anything import is_equal, standings


def outcome(function, *args, **named):
    """What a call returns, or the error that it raises."""
    try:
        return ("returned", function(*args, **named))
    except HouseError as error:
        return ("raised", type(error), vars(error))


def spread(values, many):
    """At most so many of some values, from all over them."""
    return values[::-(-len(values) // many)] if len(values) > many else values


class Case(TestCase):
    def setUp(self):
        self.standings = standings()

    def tearDown(self):
        self.assertEqual(standings(), self.standings)

    def told(self, function, /, **arguments):
        """What a call returns, by position and by name, the arguments being as before."""
        before = repr(arguments)
        first = function(*arguments.values())
        backwards = {name: arguments[name] for name in reversed(list(arguments))}
        self.assertTrue(is_equal(first, function(**backwards)), function.__name__)
        self.assertEqual(repr(arguments), before)
        return first

    def refuses(self, error, wrong, function, /, **arguments):
        """A call raises an error with the wrong value, by position and by name."""
        before = repr(arguments)
        backwards = {name: arguments[name] for name in reversed(list(arguments))}
        for args, named in ((tuple(arguments.values()), {}), ((), backwards)):
            with self.assertRaises(HouseError) as caught:
                function(*args, **named)
            self.assertIs(type(caught.exception), error, arguments)
            self.assertEqual(len(vars(caught.exception)), 1)
            self.assertTrue(is_equal(list(vars(caught.exception).values())[0], wrong), arguments)
        self.assertEqual(repr(arguments), before)

    def refuses_in_order(self, function, right, wrong):
        """Of one, two or three wrong arguments the first is told.

        right: right arguments by name, in order; wrong: triples of a name, an error and wrong
        values, in the order in which the errors are raised.
        """
        for many in (1, 2, 3):
            for some in combinations(wrong, min(many, len(wrong))):
                # The more arguments are wrong, the fewer values of each are tried.
                for values in product(*[spread(each[2], (9999, 12, 4)[many - 1]) for each in some]):
                    arguments = dict(right)
                    for (name, _, _), value in zip(some, values):
                        arguments[name] = value
                    self.refuses(some[0][1], values[0], function, **arguments)
