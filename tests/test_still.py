from itertools import product
from random import Random

from bothandall import still as module
from bothandall.ends import ends_of
from bothandall.errors import BadHouse, BadRow, BadTies, HasRing, HouseError
from bothandall.still import ended_plan, is_still, is_tied_plan, longest_tied, still_ends
from tests import oracle_rows, oracle_things
from tests.anything import any_values, is_equal, is_plain, near
from tests.checking import Case, spread
from tests.samples import (
    CROOKED, CUBE, FLAT, HOUSES, LEANING, ONE, STRAIGHT, TWO, chain, flat, pairs_house, shared_sets_house, some_rows,
    ties_of,
)
from tests.test_houses import wrong_houses
from tests.wrong import odd_plans, wrong_rows, wrong_ties

CHAIN = ((0, 1), (1, 2))
ONWARD = tuple((i, j) for i in range(6) for j in range(i + 1, 6))
# Of these rows nearly 2,000 rows come.
WIDE = [
    (pairs_house(CUBE, TWO), (10, 13, 6, 8, 3, 8), ONWARD), (shared_sets_house(16, 11), (10, 3, 12, 1, 14, 8), ONWARD),
]
SIXTEEN = [house for house in HOUSES + STRAIGHT + CROOKED if len(house) <= 16]


def cases():
    found = []
    for seed, house in enumerate(SIXTEEN):
        for hands in range(1, 6):
            some = Random(seed + hands).sample(ties_of(hands, seed), min(4, len(ties_of(hands, seed))))
            for ties, row in product(some, some_rows(house, hands, 2, seed)):
                found.append((house, row, ties))
    for seed, house in enumerate(SIXTEEN[::6]):
        for ties in ties_of(6, seed)[seed % 5::5]:
            found.append((house, some_rows(house, 6, 1, seed)[0], ties))
    return found


CASES = cases()
FREE = [case for case in CASES if not oracle_things.has_ring(len(case[1]), case[2])]


class StillTest(Case):
    def test_still_rows(self):
        kinds = set()
        for house, row, ties in CASES + WIDE:
            found = self.told(is_still, house=house, row=row, ties=ties)
            self.assertIs(found, oracle_things.is_still(house, row, ties), (house, row, ties))
            kinds.add((found, len(row), oracle_things.has_ring(len(row), ties)))
        self.assertEqual(len([kind for kind in kinds if kind[1] == 1]), 1)
        self.assertTrue({(True, 3, True), (False, 3, True), (True, 5, False), (False, 5, False)} <= kinds)

    def test_all_rows_of_small_houses(self):
        for house in (FLAT, LEANING, chain(3), TWO):
            for ties in ties_of(3, 1):
                for row in spread(list(product(range(len(house)), repeat=3)), 60):
                    self.assertIs(is_still(house, row, ties), oracle_things.is_still(house, row, ties))

    def test_still_rows_of_a_way_are_lines(self):
        for house, row, ties in FREE:
            for one in still_ends(house, row, ties):
                if oracle_things.has_way(len(row), ties):
                    self.assertEqual(oracle_rows.strange_pairs(house, one), ())

    def test_errors(self):
        wrong = [
            ("house", BadHouse, wrong_houses()), ("row", BadRow, wrong_rows(FLAT)), ("ties", BadTies, wrong_ties(3)),
        ]
        right = {"house": FLAT, "row": (1, 2, 3), "ties": CHAIN}
        for function in (is_still, ended_plan, still_ends, longest_tied):
            self.refuses_in_order(function, right, wrong)
        for thing in (((0, 1),), None):
            self.refuses_in_order(is_tied_plan, {**right, "thing": thing}, wrong)

    def test_ties_of_the_hands_of_the_row(self):
        for function in (is_still, ended_plan, still_ends, longest_tied):
            self.refuses(BadTies, ((0, 2),), function, house=FLAT, row=(1, 2), ties=((0, 2),))
            self.refuses(BadTies, ((0, 1),), function, house=FLAT, row=(1,), ties=((0, 1),))
            self.refuses(BadRow, (5,), function, house=FLAT, row=(5,), ties=((0, 1), (1, 0)))


class RingsTest(Case):
    def test_has_ring(self):
        many = set()
        for house, row, ties in CASES:
            if oracle_things.has_ring(len(row), ties):
                for function in (ended_plan, still_ends, longest_tied):
                    with self.assertRaises(HouseError) as caught:
                        function(house, row, ties)
                    self.assertIs(type(caught.exception), HasRing)
                    certificate = caught.exception.certificate
                    self.assertTrue(is_plain(certificate) and certificate[0] == "ring")
                    self.assertTrue(oracle_things.round_certificate(len(row), ties, certificate))
                    self.refuses(HasRing, certificate, function, house=house, row=row, ties=ties)
                many.add((len(row), len(certificate[1])))
        self.assertTrue({(2, 2), (5, 2), (5, 5)} <= many)

    def test_even_where_nothing_changes(self):
        ties = ((0, 1), (1, 0))
        for function in (ended_plan, still_ends, longest_tied):
            for house, row in ((ONE, (0, 0)), (FLAT, (1, 1)), (FLAT, (4, 4, 4))):
                with self.assertRaises(HasRing):
                    function(house, row, ties)
        self.assertIs(is_still(FLAT, (1, 1), ties), True)
        self.assertIs(is_still(FLAT, (0, 1), ties), False)
        self.assertIs(is_tied_plan(FLAT, (0, 1), ties, ((1, 0), (0, 1)) * 10), True)
        self.assertIs(is_tied_plan(FLAT, (0, 1), ties, ((1, 0), (0, 1)) * 10 + ((1, 0),)), False)
        self.assertIs(is_tied_plan(FLAT, (0, 1), ties, ((0, 1), (1, 0))), False)


class EndedTest(Case):
    def test_ended_plans(self):
        many = set()
        for house, row, ties in FREE + WIDE:
            found = self.told(ended_plan, house=house, row=row, ties=ties)
            self.assertTrue(is_plain(found))
            self.assertTrue(oracle_things.is_ended(house, row, ties, found), (house, row, ties, found))
            self.assertLessEqual(len(found), len(row) * (len(row) - 1) // 2)
            self.assertIs(self.told(is_tied_plan, house=house, row=row, ties=ties, thing=found), True)
            many.add(len(found))
        self.assertTrue({0, 1, 2, 3, 4, 5, 6} <= many)

    def test_still_ends_and_longest(self):
        kinds = set()
        for house, row, ties in FREE + WIDE[:1]:
            right = oracle_things.still_ends(house, row, ties)
            found = self.told(still_ends, house=house, row=row, ties=ties)
            self.assertTrue(is_equal(found, right), (house, row, ties))
            many = self.told(longest_tied, house=house, row=row, ties=ties)
            self.assertTrue(is_equal(many, oracle_things.longest_of(house, row, ties)[row]), (house, row, ties))
            if oracle_things.has_way(len(row), ties) and oracle_rows.is_straight(house):
                self.assertEqual(len(found), 1)
            kinds.add((len(found) == 1, many > 3))
        self.assertEqual(len(kinds), 4)
        self.assertGreater(len(oracle_things.longest_of(*WIDE[0])), 1900)

    def test_longest_of_all(self):
        # The farther ahead a hand is in the order, the more it holds: each pair of hands meets once.
        for hands in range(1, 7):
            row = tuple(range(hands))[::-1]
            ties = tuple((i, j) for i in range(hands) for j in range(i + 1, hands))
            self.assertEqual(longest_tied(chain(6), row, ties), hands * (hands - 1) // 2)
            self.assertEqual(longest_tied(chain(6), row, ()), 0)
            self.assertEqual(still_ends(chain(6), row, ties), (tuple(range(hands)),))
            self.assertEqual(still_ends(chain(6), row, ()), (row,))
            self.assertEqual(ended_plan(chain(6), row, ()), ())

    def test_ends_of_the_way_of_neighbours(self):
        # Meetings of hands that are not strange at most exchange what they hold, so these are ends.
        for house, row, _ in spread(CASES, 150):
            if len(row) < 6:
                ties = tuple((hand, hand + 1) for hand in range(len(row) - 1))
                self.assertTrue(set(still_ends(house, row, ties)) <= set(ends_of(house, row)))


class TiedPlanTest(Case):
    def test_all_short_plans(self):
        for house, row, ties in spread([case for case in CASES if len(case[1]) in (2, 3)], 40):
            meetings = [(i, j) for i in range(len(row)) for j in range(len(row)) if i != j]
            for many in range(4):
                for plan in spread(list(product(meetings, repeat=many)), 60):
                    right = oracle_things.is_tied_plan(house, row, ties, plan)
                    self.assertIs(is_tied_plan(house, row, ties, plan), right, (house, row, ties, plan))

    def test_other_orders(self):
        for house, row, ties in FREE:
            plan = ended_plan(house, row, ties)
            for one in (plan[::-1], plan[1:], plan[:-1], plan + plan[-1:], plan + plan, plan[:1] * 2):
                self.assertIs(is_tied_plan(house, row, ties, one), oracle_things.is_tied_plan(house, row, ties, one))

    def test_ties_alone(self):
        # The meeting would change the row, but is no tie.
        self.assertIs(is_tied_plan(FLAT, (1, 2, 3), CHAIN, ((0, 2),)), False)
        self.assertIs(is_tied_plan(FLAT, (1, 2, 3), CHAIN, ((1, 0),)), False)
        self.assertIs(is_tied_plan(FLAT, (1, 2, 3), CHAIN, ((0, 1), (1, 2), (0, 1))), oracle_things.is_tied_plan(
            FLAT, (1, 2, 3), CHAIN, ((0, 1), (1, 2), (0, 1))))
        self.assertIs(is_tied_plan(FLAT, (1, 2, 3), CHAIN, ()), True)

    def test_any_value(self):
        cases = [
            (FLAT, (1, 2, 3), CHAIN), (FLAT, (4, 1, 0), ((0, 1), (1, 0), (1, 2))), (TWO, (1,), ()), (flat(16), (3, 2), ((1, 0),)),
        ]
        for house, row, ties in cases:
            for plan in (((0, 1), (1, 2)), ((1, 0),), ((0, 1),)):
                for value in [plan] + near(plan) + odd_plans(len(row)) + any_values():
                    found = self.told(is_tied_plan, house=house, row=row, ties=ties, thing=value)
                    self.assertIs(found, oracle_things.is_tied_plan(house, row, ties, value), (house, row, ties, value))


class PlaceTest(Case):
    def test_defined_here(self):
        for name in ("is_still", "ended_plan", "is_tied_plan", "still_ends", "longest_tied"):
            self.assertEqual(getattr(module, name).__module__, "bothandall.still")
