from itertools import permutations, product
from random import Random

from bothandall import straight as module
from bothandall.errors import BadHouse, BadLot, BadWay, TooMany
from bothandall.houses import depths, greatest, pieces
from bothandall.making import judge_alike
from bothandall.rules import house_of
from bothandall.straight import (
    is_straight, judge_straight, judge_sums, lot_with, pieces_within, rules_for, straight_holds, sums_hold,
)
from tests import oracle, oracle_rows
from tests.anything import any_values, is_equal, is_plain, near
from tests.checking import Case, spread
from tests.samples import (
    BRIDGE, CROOKED, CROWN, CUBE, FENCE, FLAT, HOUSES, LARGE, LEANING, ONE, STRAIGHT, TWO, chain, flat,
    house_of_pieces, of_pairs, pairs_house, shared_sets_house, shuffled,
)
from tests.test_houses import wrong_houses, wrong_lots

WAYS = ("never rises", "never falls", "stays")
WRONG_WAYS = [value for value in any_values() + near("stays") + near("never rises") if value not in WAYS]
WRONG_WAYS += ["never", "rises", "so", "Stays", "never  rises", "never rises\n", ("stays", "stays"), WAYS, list(WAYS)]


class SamplesTest(Case):
    def test_kinds(self):
        for house in STRAIGHT:
            self.assertTrue(oracle.is_house(house) and oracle_rows.is_straight(house))
        for house in CROOKED:
            self.assertTrue(oracle.is_house(house) and not oracle_rows.is_straight(house))
        self.assertTrue({1, 2, 24} <= {len(house) for house in STRAIGHT})
        self.assertTrue({5, 24} <= {len(house) for house in CROOKED})


class StraightTest(Case):
    def test_judged_rightly(self):
        words = set()
        for house in HOUSES + STRAIGHT + CROOKED:
            found = self.told(judge_straight, house=house)
            self.assertTrue(is_plain(found))
            self.assertTrue(oracle_rows.straight_certificate(house, found), (house, found))
            self.assertIs(self.told(straight_holds, house=house, thing=found), True)
            self.assertIs(self.told(is_straight, house=house), oracle_rows.is_straight(house))
            self.assertIs(straight_holds(house, ("straight",)), oracle_rows.is_straight(house))
            words.add(found[:2])
        self.assertEqual(words, {("straight",), ("five", "flat"), ("five", "leaning")})

    def test_one_kind_of_five_lots(self):
        for seed in range(5):
            self.assertEqual(judge_straight(shuffled(flat(24), seed))[:2], ("five", "flat"))
            house = of_pairs(24, {(x, y) for x in range(1, 22) for y in range(x, 22)})
            self.assertEqual(judge_straight(shuffled(house, seed))[:2], ("five", "leaning"))

    def test_many_small_houses(self):
        for seed in range(60):
            house = shared_sets_house(5 + seed % 9, seed)
            for one in (house, tuple(zip(*house))):
                self.assertTrue(oracle_rows.straight_certificate(one, judge_straight(one)))
                self.assertIs(is_straight(one), oracle_rows.is_straight(one))

    def test_all_five_lots(self):
        for house in (FLAT, LEANING, shuffled(FLAT, 2), shuffled(LEANING, 2), flat(6), pairs_house(TWO, FLAT)):
            some = permutations(range(len(house)), 5)
            for lots in some if len(house) < 7 else spread(list(some), 4000):
                for word in ("flat", "leaning"):
                    right = oracle_rows.are_five(house, word, lots)
                    self.assertIs(straight_holds(house, ("five", word, *lots)), right, (house, word, lots))

    def test_lots_that_are_not_unlike(self):
        for house in (FLAT, LEANING, TWO, chain(3), ONE):
            for lots in product(range(min(5, len(house))), repeat=5):
                for word in ("flat", "leaning"):
                    right = oracle_rows.are_five(house, word, lots)
                    self.assertIs(straight_holds(house, ("five", word, *lots)), right, (house, word, lots))

    def test_right_ones_of_others(self):
        for a, b, c in permutations((1, 2, 3)):
            self.assertIs(straight_holds(FLAT, ("five", "flat", 0, a, b, c, 4)), True)
            self.assertIs(straight_holds(FLAT, ("five", "leaning", 0, a, b, c, 4)), False)
            self.assertIs(straight_holds(LEANING, ("five", "leaning", 0, a, b, c, 4)), (a, b, c) == (1, 2, 3))
            self.assertIs(straight_holds(LEANING, ("five", "flat", 0, a, b, c, 4)), False)

    def test_any_value(self):
        odd = [("five", ("flat", 0, 1, 2, 3, 4)), ("flat", 0, 1, 2, 3, 4), ("five", "flat", (0, 1, 2, 3, 4)), ("five",)]
        odd += [("five", "flat", 0, 1, 2, 3), ("five", "flat", 0, 1, 2, 3, 4, 4), ("five", "straight", 0, 1, 2, 3, 4)]
        odd += [("five", "flat", False, 1, 2, 3, 4), ("five", "flat", 0, True, 2, 3, 4), ("straight", ()), "straight"]
        odd += [("five", "leaning", 0, True, 2, 3, 4), ("five", "leaning", False, 1, 2, 3, 4), ("five", [], 0, 1, 2, 3, 4)]
        odd += [("five", {}, 0, 1, 2, 3, 4), ("five", "flat", 0, 1, 2, 3, 24), ("five", "flat", -5, 1, 2, 3, 4)]
        for house in (FLAT, LEANING, TWO, ONE, chain(5), shuffled(LEANING, 9)):
            for certificate in (judge_straight(house), ("five", "flat", 0, 1, 2, 3, 4), ("straight",)):
                for value in [certificate] + near(certificate) + odd + any_values():
                    found = self.told(straight_holds, house=house, thing=value)
                    self.assertIs(found, oracle_rows.straight_certificate(house, value), (house, value))

    def test_errors(self):
        for function in (judge_straight, is_straight):
            self.refuses_in_order(function, {"house": FLAT}, [("house", BadHouse, wrong_houses())])
        for thing in (("straight",), ("five", "flat", 0, 1, 2, 3, 4), None, []):
            self.refuses_in_order(straight_holds, {"house": FLAT, "thing": thing}, [("house", BadHouse, wrong_houses())])


class PiecesTest(Case):
    def test_pieces_within(self):
        for house in HOUSES + STRAIGHT:
            for x in range(len(house)):
                found = self.told(pieces_within, house=house, x=x)
                self.assertTrue(is_equal(found, oracle_rows.pieces_within(house, x)))

    def test_told_by_pieces(self):
        for house in STRAIGHT:
            within = [set(pieces_within(house, x)) for x in range(len(house))]
            for x, y in product(range(len(house)), repeat=2):
                self.assertEqual(within[oracle_rows.boths(house)[x, y]], within[x] & within[y])
                self.assertEqual(within[oracle_rows.alls(house)[x, y]], within[x] | within[y])
                self.assertEqual(within[x] == within[y], x == y)
            self.assertEqual(depths(house)[greatest(house)], len(pieces(house)))

    def test_lot_with(self):
        chance = Random(5)
        for house in HOUSES + STRAIGHT + CROOKED:
            many = len(house)
            some = [(), (0,), (many - 1,), tuple(range(many)), tuple(range(many))[::-1], (many - 1,) * 24]
            some += [tuple(chance.randrange(many) for _ in range(chance.randint(1, 24))) for _ in range(6)]
            some += [pair for pair in spread(list(product(range(many), repeat=2)), 20)]
            for lots in some:
                found = self.told(lot_with, house=house, lots=lots)
                self.assertTrue(is_equal(found, oracle_rows.all_of_some(house, lots)), (house, lots))
            for x in range(many):
                self.assertEqual(lot_with(house, pieces_within(house, x)), x)

    def test_errors(self):
        self.refuses_in_order(pieces_within, {"house": LEANING, "x": 1}, [
            ("house", BadHouse, wrong_houses()), ("x", BadLot, wrong_lots(5)),
        ])
        odd = [(0,) * 25, (0,) * 26, (5,), (0, 5), (-1,), (True,), (0, False), [0], [], ((0,),), (0, None), {0: 1}, "0"]
        wrong = [value for value in odd + any_values() + near((1, 3)) if not (
            oracle_rows.are_lots(LEANING, value) and len(value) <= 24
        )]
        self.refuses_in_order(lot_with, {"house": LEANING, "lots": (1, 3)}, [
            ("house", BadHouse, wrong_houses()), ("lots", BadLot, wrong),
        ])
        self.assertEqual(lot_with(ONE, (0,) * 24), 0)
        self.refuses(BadLot, (0,) * 25, lot_with, house=ONE, lots=(0,) * 25)
        self.refuses(BadLot, (24,), lot_with, house=chain(24), lots=(24,))


class RulesForTest(Case):
    def test_rules(self):
        kinds = set()
        for house in STRAIGHT + [shuffled(FENCE, 1), shuffled(CROWN, 2), shuffled(pairs_house(TWO, CUBE), 3)]:
            m, rules = oracle_rows.rules_for(house)
            if not 1 <= m <= 6:
                self.refuses(BadHouse, house, rules_for, house=house)
                kinds.add(m)
            elif len(rules) > 8:
                self.refuses(TooMany, 8, rules_for, house=house)
                kinds.add("many")
            else:
                found = self.told(rules_for, house=house)
                self.assertTrue(is_equal(found, (m, rules)), (house, found))
                self.assertEqual(judge_alike(house, house_of(*found))[0], "alike")
                kinds.add((m, len(rules)))
        self.assertTrue({0, 23, "many", (1, 0), (6, 8), (2, 1), (3, 0)} <= kinds, kinds)

    def test_edges(self):
        self.assertEqual(len(oracle.pieces(FENCE)), 6)
        self.assertEqual(len(rules_for(FENCE)[1]), 8)
        self.assertEqual(len(rules_for(CROWN)[1]), 8)
        self.refuses(TooMany, 8, rules_for, house=BRIDGE)
        self.refuses(TooMany, 8, rules_for, house=chain(6))
        self.refuses(TooMany, 8, rules_for, house=chain(7))
        self.refuses(BadHouse, chain(8), rules_for, house=chain(8))
        self.refuses(BadHouse, ONE, rules_for, house=ONE)
        self.assertEqual(rules_for(TWO), (1, ()))
        # Seven pieces, few of which are within one another, and seven in one line.
        seven = pairs_house(chain(2), pairs_house(chain(3), chain(4)))
        self.assertEqual(len(oracle.pieces(seven)), 6)
        wide = pairs_house(chain(2), pairs_house(chain(2), chain(6)))
        self.assertEqual(len(oracle.pieces(wide)), 7)
        self.refuses(BadHouse, wide, rules_for, house=wide)
        # Numbered by the order of the pieces, whatever is within what.
        self.assertEqual(rules_for(((1, 0, 0), (1, 1, 0), (1, 1, 1))), (2, (((0,), 1),)))

    def test_not_straight(self):
        for house in CROOKED:
            self.refuses(BadHouse, house, rules_for, house=house)

    def test_small_straight_houses(self):
        chance = Random(8)
        for _ in range(40):
            m = chance.randint(1, 5)
            pairs = {tuple(sorted(chance.sample(range(m), 2))) for _ in range(chance.randint(0, 4))} if m > 1 else set()
            house = house_of_pieces(m, sorted(pairs))
            if len(house) <= 24 and len(oracle_rows.rules_for(house)[1]) <= 8:
                house = shuffled(house, m)
                found = rules_for(house)
                self.assertEqual(found, oracle_rows.rules_for(house))
                self.assertEqual(judge_alike(house, house_of(*found))[0], "alike")

    def test_errors(self):
        self.refuses_in_order(rules_for, {"house": TWO}, [("house", BadHouse, wrong_houses())])


class SumsTest(Case):
    def test_judged_rightly(self):
        kinds = set()
        for house in HOUSES + STRAIGHT + CROOKED:
            for way in WAYS:
                found = self.told(judge_sums, house=house, way=way)
                self.assertTrue(is_plain(found))
                self.assertTrue(oracle_rows.sums_certificate(house, way, found), (house, way, found))
                self.assertIs(self.told(sums_hold, house=house, way=way, thing=found), True)
                self.assertIs(sums_hold(house, way, ("so",)), found == ("so",))
                kinds.add((way, found[0]))
        self.assertEqual(len(kinds), 6)

    def test_straight_ones_stay(self):
        for house in STRAIGHT:
            self.assertEqual([judge_sums(house, way) for way in WAYS], [("so",)] * 3)

    def test_never_rises_and_steps(self):
        # It never rises exactly if all of two lots next above one lot is next above both of them.
        for house in HOUSES + CROOKED:
            above = [oracle.steps_above(house, x) for x in range(len(house))]
            every = oracle_rows.alls(house)
            steps = all(
                x == y or every[x, y] in above[x] and every[x, y] in above[y]
                for m in range(len(house)) for x in above[m] for y in above[m]
            )
            self.assertIs(judge_sums(house, "never rises") == ("so",), steps)

    def test_all_pairs(self):
        for house in [house for house in HOUSES + CROOKED if len(house) <= 12]:
            for x, y in product(range(len(house)), repeat=2):
                for way in WAYS:
                    right = oracle_rows.sums_certificate(house, way, ("pair", x, y))
                    self.assertIs(sums_hold(house, way, ("pair", x, y)), right, (house, way, x, y))

    def test_any_value(self):
        odd = [("pair", True, 3), ("pair", 1, True), ("pair", (1, 3)), ("pair", 1), ("pair", 1, 3, 3), ("so", 1), "so"]
        odd += [("pair", 1, 5), ("pair", -4, 3), ["so"], ["pair", 1, 3], ("pair", 3, 1), ("pair", 1, 24)]
        for house in (FLAT, LEANING, ONE, chain(4)):
            for way in WAYS:
                for certificate in (("pair", 1, 3), ("so",)):
                    for value in [certificate] + near(certificate) + odd + any_values():
                        found = self.told(sums_hold, house=house, way=way, thing=value)
                        self.assertIs(found, oracle_rows.sums_certificate(house, way, value), (house, way, value))

    def test_errors(self):
        self.refuses_in_order(judge_sums, {"house": LEANING, "way": "stays"}, [
            ("house", BadHouse, wrong_houses()), ("way", BadWay, WRONG_WAYS),
        ])
        for thing in (("so",), ("pair", 1, 3), None, {}):
            self.refuses_in_order(sums_hold, {"house": LEANING, "way": "stays", "thing": thing}, [
                ("house", BadHouse, spread(wrong_houses(), 300)), ("way", BadWay, WRONG_WAYS),
            ])


class LargeTest(Case):
    def test_large_houses(self):
        for house in LARGE + [shuffled(house, 70) for house in LARGE]:
            self.assertIs(is_straight(house), oracle_rows.is_straight(house))


class PlaceTest(Case):
    def test_defined_here(self):
        for name in (
            "judge_straight", "straight_holds", "is_straight", "pieces_within", "lot_with", "rules_for", "judge_sums",
            "sums_hold",
        ):
            self.assertEqual(getattr(module, name).__module__, "bothandall.straight")
