from itertools import combinations, permutations, product
from random import Random

from bothandall import ties as module
from bothandall.errors import BadNumber, BadTies, HasRing, HouseError
from bothandall.ties import are_ties, judge_round, judge_way, ring_row, round_holds, strange_still, way_holds
from tests import oracle_rows, oracle_things
from tests.anything import any_values, is_equal, is_plain, near
from tests.checking import Case, spread
from tests.samples import TWO, pairs_house, ties_of
from tests.wrong import WRONG_HANDS, odd_told, wrong_ties

SQUARE = pairs_house(TWO, TWO)
CASES = [(hands, ties) for hands in range(1, 7) for seed in range(4) for ties in ties_of(hands, seed)]
EVERY = [
    (hands, ties) for hands in (1, 2, 3)
    for many in range(hands * (hands - 1) + 1) for ties in combinations(list(permutations(range(hands), 2)), many)
]


class AreTiesTest(Case):
    def test_right_ones(self):
        for hands, ties in CASES + EVERY:
            self.assertIs(self.told(are_ties, hands=hands, thing=ties), True)

    def test_of_so_many_hands(self):
        for hands in range(1, 7):
            for tie in product(range(-1, 8), repeat=2):
                self.assertIs(are_ties(hands, (tie,)), oracle_rows.is_meeting(hands, tie))

    def test_ascending(self):
        ties = list(permutations(range(3), 2))
        for some in product(ties, repeat=2):
            self.assertIs(are_ties(3, some), some[0] < some[1])

    def test_any_value(self):
        for hands in (1, 2, 3, 6):
            for value in any_values() + odd_told(hands) + near(((0, 1), (1, 0))) + near(((0, 1),)):
                found = self.told(are_ties, hands=hands, thing=value)
                self.assertIs(found, oracle_things.is_ties(hands, value), (hands, value))

    def test_errors(self):
        for thing in (((0, 1),), None):
            self.refuses_in_order(are_ties, {"hands": 2, "thing": thing}, [("hands", BadNumber, WRONG_HANDS)])


class RoundTest(Case):
    def test_judged_rightly(self):
        kinds = set()
        for hands, ties in CASES + EVERY:
            found = self.told(judge_round, hands=hands, ties=ties)
            self.assertTrue(is_plain(found))
            self.assertTrue(oracle_things.round_certificate(hands, ties, found), (hands, ties, found))
            self.assertIs(self.told(round_holds, hands=hands, ties=ties, thing=found), True)
            self.assertEqual(found[0] == "ring", oracle_things.has_ring(hands, ties))
            kinds.add((found[0], hands, len(found[1])))
        self.assertTrue({("ring", 2, 2), ("ring", 6, 6), ("ring", 6, 2), ("order", 1, 1), ("order", 6, 6)} <= kinds)

    def test_rings_of_all_sizes(self):
        for hands in range(2, 7):
            for many in range(2, hands + 1):
                for seed in range(4):
                    ring = tuple(Random(seed).sample(range(hands), many))
                    ties = tuple(sorted(zip(ring, ring[1:] + ring[:1])))
                    word, found = judge_round(hands, ties)
                    self.assertEqual((word, sorted(found)), ("ring", sorted(ring)))
                    for at in range(many):
                        self.assertIs(round_holds(hands, ties, ("ring", ring[at:] + ring[:at])), True)
                    self.assertIs(round_holds(hands, ties, ("ring", ring[::-1])), many == 2)
                    self.assertIs(round_holds(hands, ties, ("ring", ring[:-1])), False)
                    self.assertIs(round_holds(hands, ties, ("ring", ring + ring)), False)
                    self.assertIs(round_holds(hands, ties, ("ring", ring + ring[:1])), False)

    def test_all_orders_and_rings(self):
        for hands, ties in EVERY + spread([case for case in CASES if case[0] > 3], 40):
            some = [some for many in range(hands + 1) for some in permutations(range(hands), many)]
            for hands_told in spread(some, 300):
                for word in ("order", "ring"):
                    right = oracle_things.round_certificate(hands, ties, (word, hands_told))
                    self.assertIs(round_holds(hands, ties, (word, hands_told)), right, (hands, ties, hands_told))

    def test_any_value(self):
        cases = [(3, ((0, 1), (1, 2))), (2, ((0, 1), (1, 0))), (1, ()), (2, ()), (3, ((0, 1), (1, 2), (2, 0))), (3, ((2, 1),))]
        odd = [("order", (0, 1, True)), ("order", [0, 1, 2]), ("order", (0, 1, 2, 2)), ("order", (0, 1)), ("order", (0, 1, 3))]
        odd += [("ring", (0, True)), ("ring", (False, 1)), ("ring", (0, 1)), ("ring", (0, 1, 2)), ("ring", [0, 1]), ("ring", ())]
        odd += [("ring", (0,)), ("ring", (0, 0)), ("ring", (0, 1, 0, 1)), ("ring", (0, -1)), ("ring", (1, 0, 2)), ["ring", (0, 1)]]
        odd += [("order", (0, -2, -1)), ("order", ()), ("order", (0,)), ("ring", (0, 1), ()), ("order", (0, 1, 2), 0)]
        for hands, ties in cases:
            found = judge_round(hands, ties)
            for value in [found] + near(found) + odd + any_values():
                right = oracle_things.round_certificate(hands, ties, value)
                self.assertIs(self.told(round_holds, hands=hands, ties=ties, thing=value), right, (hands, ties, value))

    def test_errors(self):
        wrong = [("hands", BadNumber, WRONG_HANDS), ("ties", BadTies, wrong_ties(2))]
        for function in (judge_round, ring_row, judge_way, strange_still):
            self.refuses_in_order(function, {"hands": 2, "ties": ((0, 1),)}, wrong)
        for function in (round_holds, way_holds):
            for thing in (("order", (0, 1)), ("way", (0, 1)), None):
                self.refuses_in_order(function, {"hands": 2, "ties": ((0, 1),), "thing": thing}, wrong)


class RingRowTest(Case):
    def test_changed_for_ever(self):
        for hands, ties in CASES + EVERY:
            found = self.told(ring_row, hands=hands, ties=ties)
            if oracle_things.has_ring(hands, ties):
                self.assertTrue(is_plain(found) and oracle_rows.is_row(TWO, found) and len(found) == hands)
                self.assertTrue(oracle_things.can_be_changed_for_ever(TWO, found, ties), (hands, ties, found))
            else:
                self.assertIs(found, None)
                for row in product((0, 1), repeat=hands):
                    self.assertFalse(oracle_things.can_be_changed_for_ever(TWO, row, ties))


class WayTest(Case):
    def test_judged_rightly(self):
        kinds = set()
        for hands, ties in CASES + EVERY:
            if oracle_things.has_ring(hands, ties):
                continue
            found = self.told(judge_way, hands=hands, ties=ties)
            self.assertTrue(is_plain(found))
            self.assertTrue(oracle_things.way_certificate(hands, ties, found), (hands, ties, found))
            self.assertIs(self.told(way_holds, hands=hands, ties=ties, thing=found), True)
            self.assertEqual(found[0] == "way", oracle_things.has_way(hands, ties))
            kinds.add((found[0], hands))
        self.assertEqual(len(kinds), 11)

    def test_all_certificates(self):
        for hands, ties in EVERY + spread([case for case in CASES if case[0] > 3], 60):
            if not oracle_things.has_ring(hands, ties):
                told = [("two", i, j) for i, j in product(range(-1, hands + 1), repeat=2)]
                told += [("way", order) for order in spread(list(permutations(range(hands))), 150)]
                for thing in told:
                    right = oracle_things.way_certificate(hands, ties, thing)
                    self.assertIs(way_holds(hands, ties, thing), right, (hands, ties, thing))

    def test_ways_that_are_not_straight_on(self):
        # From 0 to 2 ties lead by 1, so the two have a way, though no tie.
        self.assertEqual(judge_way(4, ((0, 1), (1, 2), (2, 3))), ("way", (0, 1, 2, 3)))
        self.assertIs(way_holds(4, ((0, 1), (1, 2)), ("two", 0, 2)), False)
        self.assertIs(way_holds(4, ((0, 1), (1, 2)), ("two", 0, 3)), True)
        self.assertIs(way_holds(4, ((1, 0), (3, 1)), ("two", 0, 3)), False)
        self.assertIs(way_holds(4, ((2, 1), (3, 1)), ("two", 2, 3)), True)

    def test_any_value(self):
        cases = [(3, ((0, 1), (1, 2))), (3, ((0, 1), (0, 2))), (1, ()), (2, ()), (2, ((1, 0),)), (4, ((0, 1), (2, 3)))]
        odd = [("two", 0, 1), ("two", 1, 0), ("two", 1, 2), ("two", 2, 1), ("two", 0, True), ("two", False, 1), ("two", 0, 0)]
        odd += [("two", -1, 0), ("two", 0, 9), ("two", (0, 1)), ("way", (0, True, 2)), ("way", [0, 1, 2]), ("way", 0, 1, 2)]
        odd += [("way", (0, 1)), ("way", (0,)), ("way", ()), ("way", (1, 0)), ("way", (0, 1, 2)), ("way", (0, 1, 1, 2)), ("two", 0, 2)]
        for hands, ties in cases:
            found = judge_way(hands, ties)
            for value in [found] + near(found) + odd + any_values():
                right = oracle_things.way_certificate(hands, ties, value)
                self.assertIs(self.told(way_holds, hands=hands, ties=ties, thing=value), right, (hands, ties, value))

    def test_has_ring(self):
        many = 0
        for hands, ties in CASES + EVERY:
            if oracle_things.has_ring(hands, ties):
                calls = [(judge_way, {}), (strange_still, {})]
                calls += [(way_holds, {"thing": thing}) for thing in (("way", tuple(range(hands))), ("two", 0, 1), None)]
                for function, more in calls:
                    with self.assertRaises(HouseError) as caught:
                        function(hands=hands, ties=ties, **more)
                    self.assertIs(type(caught.exception), HasRing)
                    certificate = caught.exception.certificate
                    self.assertTrue(is_plain(certificate) and certificate[0] == "ring")
                    self.assertTrue(oracle_things.round_certificate(hands, ties, certificate))
                    self.refuses(HasRing, certificate, function, hands=hands, ties=ties, **more)
                many += 1
        self.assertGreater(many, 40)


class StrangeStillTest(Case):
    def test_still_and_strange(self):
        many = 0
        for hands, ties in CASES + EVERY:
            if oracle_things.has_ring(hands, ties):
                continue
            found = self.told(strange_still, hands=hands, ties=ties)
            if oracle_things.has_way(hands, ties):
                self.assertIs(found, None)
            else:
                self.assertTrue(is_plain(found) and oracle_rows.is_row(SQUARE, found) and len(found) == hands)
                self.assertTrue(oracle_things.is_still(SQUARE, found, ties), (hands, ties, found))
                self.assertNotEqual(oracle_rows.strange_pairs(SQUARE, found), ())
                many += 1
        self.assertGreater(many, 40)

    def test_lines(self):
        # With a way each still row is a line, in the order of the way.
        for hands, ties in EVERY:
            if not oracle_things.has_ring(hands, ties) and oracle_things.has_way(hands, ties):
                order = judge_way(hands, ties)[1]
                for row in product(range(4), repeat=hands):
                    if oracle_things.is_still(SQUARE, row, ties):
                        self.assertTrue(oracle_rows.is_line(SQUARE, tuple(row[hand] for hand in order)))

    def test_edges(self):
        self.assertTrue(is_equal([strange_still(1, ()), judge_way(1, ())], [None, ("way", (0,))]))
        self.assertIn(strange_still(2, ()), ((1, 2), (2, 1)))


class PlaceTest(Case):
    def test_defined_here(self):
        for name in ("are_ties", "judge_round", "round_holds", "ring_row", "judge_way", "way_holds", "strange_still"):
            self.assertEqual(getattr(module, name).__module__, "bothandall.ties")
