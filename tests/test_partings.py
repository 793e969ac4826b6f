from itertools import product
from random import Random

from bothandall import partings as module
from bothandall.errors import BadHouse, BadLot, BadThing
from bothandall.houses import is_house
from bothandall.maps import judge_map
from bothandall.partings import (
    house_of_blocks, is_parting, judge_parting, judge_simple, least_kept, parting_holds, simple_holds,
)
from tests import oracle_desks, oracle_rows, oracle_things
from tests.anything import any_values, is_equal, is_plain, near
from tests.checking import Case, spread
from tests.samples import (
    CROOKED, CUBE, FLAT, HOUSES, LEANING, ONE, STRAIGHT, TWO, chain, flat, of_pairs, pairs_house, shared_sets_house, shuffled,
)
from tests.test_houses import wrong_houses

THREE = chain(3)
SIXTEEN = [house for house in HOUSES + STRAIGHT + CROOKED if len(house) <= 16]
SIXTEEN += [flat(16), chain(16), pairs_house(chain(4), chain(4)), shared_sets_house(16, 3), shuffled(flat(11), 5)]


def numbered(marks):
    names = []
    for mark in marks:
        if mark not in names:
            names.append(mark)
    return tuple(names.index(mark) for mark in marks)


def random_parting(many, blocks, chance):
    return numbered([chance.randrange(blocks) for _ in range(many)])


def some_partings():
    found = []
    chance = Random(3)
    for house in SIXTEEN:
        many = len(house)
        found += [(house, tuple(range(many))), (house, (0,) * many)]
        pairs = [(x, y) for x in range(many) for y in range(x)]
        for pair in chance.sample(pairs, min(3, len(pairs))):
            parting = oracle_desks.least_kept(house, (pair,))
            found.append((house, parting))
            # Two blocks put together, or one lot put elsewhere: perhaps kept, perhaps not.
            found.append((house, numbered([min(block, max(parting) - 1) if max(parting) else 0 for block in parting])))
            at = chance.randrange(many)
            found.append((house, numbered(parting[:at] + (chance.randrange(many),) + parting[at + 1:])))
        found += [(house, random_parting(many, blocks, chance)) for blocks in (2, 3, many)]
    return found


PARTINGS = some_partings()


def wrong_partings(house, parting):
    odd = [(1,) + parting[1:], parting[:-1], parting + (0,), tuple(block + 1 for block in parting), list(parting)]
    odd += [(False,) + parting[1:], parting[:-1] + (len(house),), (0,) * (len(house) + 1), (0,) * (len(house) - 1), (0, 2, 1, 0, 0)]
    return [value for value in odd + any_values() + near(parting) if not oracle_desks.is_parting(house, value)]


class IsPartingTest(Case):
    def test_all_partings_of_small_houses(self):
        for house in (ONE, TWO, THREE, pairs_house(TWO, TWO), FLAT):
            many = len(house)
            for value in product(range(-1, many + 1), repeat=many):
                self.assertIs(is_parting(house, value), oracle_desks.is_parting(house, value), value)

    def test_right_ones(self):
        for house, parting in PARTINGS:
            self.assertTrue(oracle_desks.is_parting(house, parting))
            self.assertIs(self.told(is_parting, house=house, thing=parting), True)

    def test_any_value(self):
        for house in (ONE, TWO, FLAT, flat(16), chain(24)):
            found = wrong_partings(house, tuple(range(len(house)))) + any_values() + near((0,) * len(house))
            for value in found:
                self.assertIs(self.told(is_parting, house=house, thing=value), oracle_desks.is_parting(house, value), value)

    def test_errors(self):
        for thing in ((0, 0), None):
            self.refuses_in_order(is_parting, {"house": TWO, "thing": thing}, [("house", BadHouse, wrong_houses())])


class JudgePartingTest(Case):
    def test_judged_rightly(self):
        kinds = set()
        for house, parting in PARTINGS:
            found = self.told(judge_parting, house=house, parting=parting)
            self.assertTrue(is_plain(found))
            self.assertTrue(oracle_desks.parting_certificate(house, parting, found), (house, parting, found))
            self.assertIs(self.told(parting_holds, house=house, parting=parting, thing=found), True)
            self.assertIs(parting_holds(house, parting, ("kept",)), oracle_desks.is_kept(house, parting))
            kinds.add(found[0])
        self.assertEqual(kinds, {"kept", "both", "all"})

    def test_all_partings_of_small_houses(self):
        for house in (ONE, TWO, THREE, chain(5), pairs_house(TWO, TWO), FLAT, LEANING, shuffled(LEANING, 1)):
            for parting in oracle_things.things("partings", len(house)):
                found = judge_parting(house, parting)
                self.assertTrue(oracle_desks.parting_certificate(house, parting, found), (house, parting, found))

    def test_all_certificates(self):
        for house, parting in spread([case for case in PARTINGS if len(case[0]) <= 9], 60):
            for lots in spread(list(product(range(len(house)), repeat=3)), 200):
                for word in ("both", "all"):
                    right = oracle_desks.parting_certificate(house, parting, (word, *lots))
                    self.assertIs(parting_holds(house, parting, (word, *lots)), right, (house, parting, word, lots))

    def test_any_value(self):
        odd = [("both", 1, 2, 3), ("all", 1, 2, 3), ("all", 2, 1, 3), ("both", 0, 1, 2), ("both", 1, True, 2), ("all", 1, 1, 1)]
        odd += [("all", 1, 2), ("all", 1, 2, 9), ("all", 1, 2, -1), ("all", 1, 2, (3,)), ["all", 1, 2, 3], ("kept", 0), ("kept",)]
        odd += [("all", False, 1, 2), ("both", 0, 1, 3), ("all", 0, 1, 3), ("both", 4, 3, 1), ("both", 1, 4, 2), ("both", 4, 1, 2)]
        for house, parting in [
            (FLAT, (0, 1, 1, 2, 3)), (FLAT, (0, 0, 1, 2, 3)), (LEANING, (0, 1, 1, 2, 3)), (FLAT, (0, 1, 2, 3, 1)), (ONE, (0,)),
            (LEANING, (0, 0, 0, 0, 1)), (TWO, (0, 1)),
        ]:
            found = judge_parting(house, parting)
            for value in [found] + near(found) + odd + any_values():
                right = oracle_desks.parting_certificate(house, parting, value)
                self.assertIs(self.told(parting_holds, house=house, parting=parting, thing=value), right, (parting, value))

    def test_errors(self):
        parting = (0, 1, 1, 2, 3)
        wrong = [("house", BadHouse, wrong_houses()), ("parting", BadThing, wrong_partings(LEANING, parting))]
        self.refuses_in_order(judge_parting, {"house": LEANING, "parting": parting}, wrong)
        for thing in (("kept",), None):
            self.refuses_in_order(parting_holds, {"house": LEANING, "parting": parting, "thing": thing}, wrong)
        unkept = [one for one in oracle_things.things("partings", 5) if not oracle_desks.is_kept(LEANING, one)]
        wrong[1] = ("parting", BadThing, unkept + wrong[1][2])
        self.refuses_in_order(house_of_blocks, {"house": LEANING, "parting": parting}, wrong)


class BlocksTest(Case):
    def test_houses_of_blocks(self):
        sizes = set()
        for house, parting in PARTINGS:
            if not oracle_desks.is_kept(house, parting):
                self.refuses(BadThing, parting, house_of_blocks, house=house, parting=parting)
                continue
            found = self.told(house_of_blocks, house=house, parting=parting)
            self.assertTrue(is_equal(found, oracle_desks.house_of_blocks(house, parting)), (house, parting))
            self.assertTrue(is_house(found))
            self.assertEqual(judge_map(house, found, parting), ("good",))
            sizes.add((len(found) == 1, len(found) == len(house)))
        self.assertEqual(len(sizes), 4)

    def test_single_lots_and_one_block(self):
        for house in SIXTEEN:
            self.assertEqual(house_of_blocks(house, tuple(range(len(house)))), house)
            self.assertEqual(house_of_blocks(house, (0,) * len(house)), ONE)


class LeastKeptTest(Case):
    def test_least_of_all(self):
        for house in (ONE, TWO, THREE, chain(5), pairs_house(TWO, TWO), FLAT, LEANING, of_pairs(6, {(1, 2), (3, 4)})):
            kept = [one for one in oracle_things.things("partings", len(house)) if oracle_desks.is_kept(house, one)]
            pairs = list(product(range(len(house)), repeat=2))
            some = [()] + [(pair,) for pair in pairs] + spread(list(product(pairs, repeat=2)), 100)
            for pairs in some:
                found = self.told(least_kept, house=house, pairs=pairs)
                around = [one for one in kept if all(one[x] == one[y] for x, y in pairs)]
                self.assertIn(found, around)
                self.assertTrue(all(oracle_things.is_within("partings", found, one) for one in around), (house, pairs))

    def test_large_houses(self):
        chance = Random(8)
        for house in SIXTEEN:
            for many in (0, 1, 1, 2, 3):
                pairs = tuple((chance.randrange(len(house)), chance.randrange(len(house))) for _ in range(many))
                found = self.told(least_kept, house=house, pairs=pairs)
                self.assertTrue(is_equal(found, oracle_desks.least_kept(house, pairs)), (house, pairs))
                self.assertIs(parting_holds(house, found, ("kept",)), True)

    def test_numbers_of_pairs(self):
        for many in (0, 23, 24):
            self.assertEqual(least_kept(THREE, ((2, 2),) * many), (0, 1, 2))
        self.assertEqual(least_kept(THREE, ((2, 1),) * 24), (0, 1, 1))
        self.refuses(BadLot, ((2, 1),) * 25, least_kept, house=THREE, pairs=((2, 1),) * 25)
        self.refuses(BadLot, ((0, 0),) * 25, least_kept, house=ONE, pairs=((0, 0),) * 25)
        self.assertEqual(least_kept(chain(16), tuple((x, x + 1) for x in range(0, 15, 2))), tuple(x // 2 for x in range(16)))

    def test_errors(self):
        odd = [((0, 5),), ((0,),), ((0, 1, 2),), (0, 1), ((0, True),), ([0, 1],), [(0, 1)], ((-1, 0),), ((0, 1), None), ((0, 1),) * 25]
        odd += [((0, 1), (1, 2, 3)), (((0, 1),),), ((0, "1"),), {(0, 1): 0}, ((0, 1), ())]
        right = [value for value in any_values() + near(((0, 1), (2, 3))) if not self.are_pairs(value)]
        self.refuses_in_order(least_kept, {"house": FLAT, "pairs": ((0, 1), (2, 3))}, [
            ("house", BadHouse, wrong_houses()), ("pairs", BadLot, odd + right),
        ])

    def are_pairs(self, value):
        if type(value) is not tuple or len(value) > 24:
            return False
        return all(oracle_rows.are_lots(FLAT, pair) and len(pair) == 2 for pair in value)


class SimpleTest(Case):
    def test_judged_rightly(self):
        kinds = set()
        for house in SIXTEEN:
            if len(house) == 1:
                continue
            found = self.told(judge_simple, house=house)
            self.assertTrue(is_plain(found))
            self.assertTrue(oracle_desks.simple_certificate(house, found), (house, found))
            self.assertIs(self.told(simple_holds, house=house, thing=found), True)
            self.assertIs(simple_holds(house, ("simple",)), oracle_desks.is_simple(house))
            kinds.add((found[0], oracle_rows.is_straight(house)))
        self.assertEqual(len(kinds), 4)

    def test_straight_ones(self):
        # A straight house is simple just if it has two lots.
        for house in STRAIGHT:
            if 1 < len(house) <= 16:
                self.assertEqual(judge_simple(house) == ("simple",), len(house) == 2)
        self.assertEqual(judge_simple(flat(16)), ("simple",))
        self.assertEqual(judge_simple(flat(5)), ("simple",))

    def test_all_partings_of_small_houses(self):
        for house in (TWO, THREE, chain(5), pairs_house(TWO, TWO), FLAT, LEANING, of_pairs(6, {(1, 2), (3, 4)})):
            for parting in oracle_things.things("partings", len(house)):
                right = oracle_desks.simple_certificate(house, ("parting", parting))
                self.assertIs(simple_holds(house, ("parting", parting)), right, (house, parting))

    def test_any_value(self):
        odd = [("parting", (0, 1, 1, 2, 3)), ("parting", (0, 0, 0, 1, 1)), ("parting", (0, 0, 0, 0, 0)), ("parting", (0, 1, 2, 3, 4))]
        odd += [("parting", [0, 0, 0, 1, 1]), ("parting", (False, 0, 0, 1, 1)), ("parting", (1, 1, 1, 0, 0)), ("parting", 0, 0, 0, 1, 1)]
        odd += [("parting", (0, 0, 0, 1)), ("parting", ()), ("parting", (0,)), ("parting", (0, 0)), ("parting", (0, 1)), "simple"]
        for house in (LEANING, FLAT, TWO, THREE, pairs_house(TWO, TWO), CUBE):
            found = judge_simple(house)
            for value in [found] + near(found) + odd + any_values():
                right = oracle_desks.simple_certificate(house, value)
                self.assertIs(self.told(simple_holds, house=house, thing=value), right, (house, value))

    def test_errors(self):
        wrong = [("house", BadHouse, [ONE] + wrong_houses())]
        self.refuses_in_order(judge_simple, {"house": TWO}, wrong)
        for thing in (("simple",), ("parting", (0,)), None):
            self.refuses_in_order(simple_holds, {"house": TWO, "thing": thing}, wrong)


class PlaceTest(Case):
    def test_defined_here(self):
        for name in (
            "is_parting", "judge_parting", "parting_holds", "house_of_blocks", "least_kept", "judge_simple", "simple_holds",
        ):
            self.assertEqual(getattr(module, name).__module__, "bothandall.partings")
