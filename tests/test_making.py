from itertools import permutations, product
from random import Random

from bothandall import making as module
from bothandall.errors import BadHouse, BadLot, TooMany
from bothandall.houses import is_house
from bothandall.making import above, alike_holds, beside, judge_alike, stretch, turned_over
from tests import oracle
from tests.anything import any_values, is_equal, is_plain, near
from tests.checking import Case, spread
from tests.samples import (
    CUBE, FLAT, HOUSES, LEANING, ONE, SMALL, TWO, chain, flat, of_pairs, pairs_house, renamed, shared_sets_house,
    shuffled,
)
from tests.test_houses import wrong_houses, wrong_lots


def beside_told(one, other):
    b = len(other)
    size = len(one) * b
    return tuple(
        tuple(int(one[p // b][q // b] == 1 and other[p - p // b * b][q - q // b * b] == 1) for q in range(size))
        for p in range(size)
    )


def above_told(one, other):
    a, size = len(one), len(one) + len(other)

    def bit(p, q):
        if p < a and q < a:
            return one[p][q]
        if p >= a and q >= a:
            return other[p - a][q - a]
        return int(p < a)

    return tuple(tuple(bit(p, q) for q in range(size)) for p in range(size))


def stretch_told(house, x, y):
    lots = [z for z in range(len(house)) if house[x][z] == 1 and house[z][y] == 1]
    return tuple(tuple(house[a][b] for b in lots) for a in lots)


class TurnedTest(Case):
    def test_turned_over(self):
        for house in HOUSES:
            found = self.told(turned_over, house=house)
            size = range(len(house))
            self.assertTrue(is_equal(found, tuple(tuple(house[y][x] for y in size) for x in size)))
            self.assertTrue(is_equal(turned_over(found), house))
            self.assertIs(is_house(found), True)

    def test_errors(self):
        self.refuses_in_order(turned_over, {"house": FLAT}, [("house", BadHouse, wrong_houses())])


class TwoHousesTest(Case):
    def test_beside(self):
        for one, other in product(HOUSES, repeat=2):
            if len(one) * len(other) <= 24:
                found = self.told(beside, one=one, other=other)
                self.assertTrue(is_equal(found, beside_told(one, other)))
                self.assertIs(is_house(found), True)

    def test_above(self):
        for one, other in product(HOUSES[::2], HOUSES[1::3]):
            if len(one) + len(other) <= 24:
                found = self.told(above, one=one, other=other)
                self.assertTrue(is_equal(found, above_told(one, other)))
                self.assertIs(is_house(found), True)

    def test_just_24_lots_and_more(self):
        for a, b in product(range(1, 25), repeat=2):
            one, other = shuffled(chain(a), a), shuffled(flat(b) if b > 3 else chain(b), b)
            if a * b <= 24:
                self.assertEqual(len(beside(one, other)), a * b)
            else:
                self.refuses(TooMany, 24, beside, one=one, other=other)
            if a + b <= 24:
                self.assertEqual(len(above(one, other)), a + b)
            else:
                self.refuses(TooMany, 24, above, one=one, other=other)

    def test_errors(self):
        # A wrong house is told ahead of too many lots.
        for one, other in ((TWO, FLAT), (chain(24), chain(24)), (flat(20), LEANING)):
            wrong = wrong_houses() if one == TWO else spread(wrong_houses(), 500)
            for function in (beside, above, judge_alike):
                self.refuses_in_order(function, {"one": one, "other": other}, [
                    ("one", BadHouse, wrong), ("other", BadHouse, wrong[::-1]),
                ])


class StretchTest(Case):
    def test_stretches(self):
        for house in HOUSES:
            lots = [(x, y) for x, y in product(range(len(house)), repeat=2) if house[x][y] == 1]
            for x, y in spread(lots, 40):
                found = self.told(stretch, house=house, x=x, y=y)
                self.assertTrue(is_equal(found, stretch_told(house, x, y)))
                self.assertIs(is_house(found), True)

    def test_edges(self):
        for house in HOUSES:
            for x in range(len(house)):
                self.assertTrue(is_equal(stretch(house, x, x), ((1,),)))
            self.assertTrue(is_equal(stretch(house, oracle.least(house), oracle.greatest(house)), house))

    def test_not_within(self):
        for house in SMALL:
            for x, y in product(range(len(house)), repeat=2):
                if house[x][y] == 0:
                    self.refuses(BadLot, y, stretch, house=house, x=x, y=y)

    def test_errors(self):
        # From 2 only 2 and 4 can be reached: wrong lots are told ahead of lots that are not around it.
        self.refuses_in_order(stretch, {"house": LEANING, "x": 2, "y": 4}, [
            ("house", BadHouse, wrong_houses()), ("x", BadLot, wrong_lots(5)), ("y", BadLot, wrong_lots(5)),
        ])
        self.refuses_in_order(stretch, {"house": LEANING, "x": 2, "y": 1}, [
            ("house", BadHouse, wrong_houses()), ("x", BadLot, wrong_lots(5)), ("y", BadLot, wrong_lots(5) + [0, 1, 3]),
        ])


# The pairs of places of two hexagons' houses' lots: as many steps up from each lot, but unlike.
HEXAGON = {(1, 6), (1, 7), (2, 7), (2, 8), (3, 8), (3, 6), (4, 9), (4, 10), (5, 10)}
LADDER = {(1, 6), (1, 7), (2, 7), (2, 8), (3, 8), (3, 9), (4, 9), (4, 10), (5, 10)}


def pairs_of_houses():
    """Houses of at most 12 lots, some pairs of them alike, some only nearly so."""
    some = [house for house in HOUSES if len(house) <= 12]
    some += [flat(12), chain(12), of_pairs(12, HEXAGON), of_pairs(12, LADDER), pairs_house(chain(2), chain(6))]
    some += [pairs_house(chain(3), chain(4)), pairs_house(chain(3), flat(4)), shared_sets_house(12, 6)]
    found = []
    for seed, house in enumerate(some):
        found.append((house, shuffled(house, seed)))
        found.append((shuffled(house, seed + 1), tuple(zip(*house))))
    found += [(one, other) for one, other in product(some, repeat=2) if len(one) == len(other)]
    return found + [(chain(4), chain(5)), (ONE, TWO), (flat(12), flat(11)), (flat(4), chain(4))]


class AlikeTest(Case):
    def test_judged_rightly(self):
        kinds = set()
        for one, other in pairs_of_houses():
            found = self.told(judge_alike, one=one, other=other)
            self.assertTrue(is_plain(found))
            kinds.add((found[0], len(one)))
            self.assertEqual(found == ("unlike",), not oracle.are_alike(one, other), (one, other))
            if found != ("unlike",):
                self.assertEqual([len(found), found[0]], [2, "alike"])
                self.assertTrue(oracle.is_renaming(one, other, found[1]))
            self.assertIs(alike_holds(one, other, found), True)
            self.assertIs(self.told(alike_holds, one=one, other=other, thing=("unlike",)), found == ("unlike",))
        self.assertTrue({("alike", 12), ("unlike", 12), ("alike", 1)} <= kinds)

    def test_nearly_alike(self):
        one, other = of_pairs(12, HEXAGON), of_pairs(12, LADDER)
        self.assertTrue(oracle.is_house(one) and oracle.is_house(other))
        self.assertEqual(sorted(map(sum, one)), sorted(map(sum, other)))
        for seed in range(4):
            self.assertEqual(judge_alike(one, shuffled(other, seed)), ("unlike",))
            self.assertEqual(judge_alike(shuffled(one, seed), one)[0], "alike")
            self.assertEqual(judge_alike(shuffled(other, seed), shuffled(other, seed + 1))[0], "alike")

    def test_all_renamings(self):
        for house in (ONE, TWO, FLAT, LEANING, pairs_house(TWO, TWO)):
            for names in permutations(range(len(house))):
                self.assertIs(alike_holds(house, renamed(house, names), ("alike", names)), True)
                right = renamed(house, names) == house
                self.assertIs(self.told(alike_holds, one=house, other=house, thing=("alike", names)), right)

    def test_renamings_of_the_cube(self):
        chance = Random(4)
        for names in chance.sample(list(permutations(range(8))), 400):
            other = renamed(CUBE, names)
            self.assertIs(alike_holds(CUBE, other, ("alike", names)), True)
            wrong = names[1:] + names[:1]
            self.assertIs(alike_holds(CUBE, other, ("alike", wrong)), oracle.is_renaming(CUBE, other, wrong))

    def test_not_the_other_way_round(self):
        # At x stands the new number of x, not the old one.
        names = (1, 2, 0)
        house = renamed(chain(3), names)
        self.assertIs(alike_holds(chain(3), house, ("alike", (1, 2, 0))), True)
        self.assertIs(alike_holds(chain(3), house, ("alike", (2, 0, 1))), False)
        self.assertIs(alike_holds(house, chain(3), ("alike", (2, 0, 1))), True)
        self.assertEqual(judge_alike(chain(3), house), ("alike", names))

    def test_any_value(self):
        other = shuffled(LEANING, 5)
        certificate = judge_alike(LEANING, other)
        words = [("unlike",), ("unlike", ()), ("alike",), ("alike", ()), "unlike", ["unlike"], ("Unlike",)]
        for one, two in ((LEANING, other), (LEANING, FLAT), (TWO, TWO), (TWO, ONE), (ONE, TWO), (ONE, ONE)):
            alike = oracle.are_alike(one, two)
            small = near(("alike", (0, 1))) + near(("alike", (0,))) + [("alike", (0, 1)), ("alike", (0,))]
            for value in [certificate] + near(certificate) + small + near(("unlike",)) + any_values() + words:
                right = type(value) is tuple and value == ("unlike",) and not alike
                if type(value) is tuple and len(value) == 2 and type(value[0]) is str and value[0] == "alike":
                    right = oracle.is_renaming(one, two, value[1])
                found = self.told(alike_holds, one=one, other=two, thing=value)
                self.assertIs(found, right, (one, two, value))

    def test_errors(self):
        for thing in (("unlike",), ("alike", (0, 1)), None, []):
            self.refuses_in_order(alike_holds, {"one": TWO, "other": FLAT, "thing": thing}, [
                ("one", BadHouse, wrong_houses()), ("other", BadHouse, wrong_houses()[::-1]),
            ])


class PlaceTest(Case):
    def test_defined_here(self):
        for name in ("turned_over", "beside", "above", "stretch", "judge_alike", "alike_holds"):
            self.assertEqual(getattr(module, name).__module__, "bothandall.making")
